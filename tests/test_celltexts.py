"""Arrays as texts, and back [34]."""

import unittest

from sumstand.batches import do
from sumstand.celltexts import array_text, read_array
from sumstand.errors import BadText, NotStanding, Refused
from sumstand.shelves import Array
from tests.arrays import BITS, STANDING, filled, part_of_great, seen, some_losses, with_data
from tests.helpers import Case, GREAT, GREAT_TABLE, NO_NUMBERS, NO_TUPLES, Numbers, SHAPE, nested
from tests.listing import shelves

EXAMPLE = (
    "shape 2 1 2 1 1", "sum 1 0", "sum 0 1", "shelf 0 kept 1", "shelf 1 kept 0", "shelf 2 kept 1", "shelf 3 lost",
)

# An array of two rows with cells of two numbers: lost, filling and new shelves.
FULL = (
    "shape 65521 2 2 2 2",
    "sum 31118 60993",
    "sum 10952 20171",
    "sum 14224 12045",
    "sum 10629 11758",
    "shelf 0 kept 1.2 3.4",
    "shelf 1 lost",
    "shelf 2 kept 0.0 65520.65520",
    "shelf 3 filling 9.8 7.6",
    "shelf 4 kept 10.20 30.40",
    "shelf 5 kept 0.1 1.0",
    "column 4567 32230 39761 3295: shelf 6 new 5.5 6.6",
)
FIRST_SHELF, NEW_SHELF = 5, 11

NO_FIGURES = (
    "", "01", "00", "+1", "-1", "1.0", "1,0", "x", "1x", "x1", "0x1", "1e1", "1_0", "1_000", "\u0661", "\u00b2",
    "\uff11", "\ud800", "1\n", "1\t", "\n1", "None", "True", "9" * 1000, "0" * 1000, "1" + "0" * 999, "100000",
)


def with_text(texts, at, text):
    return texts[:at] + (text,) + texts[at + 1:]


class Texts(Case):
    def test_the_example(self):
        array = with_data(BITS, [((1,), (0,))])
        array.lose(3)
        self.same(array_text(array), EXAMPLE)
        self.same(array_text(array=read_array(texts=EXAMPLE)), EXAMPLE)

    def test_by_hand(self):
        array = read_array(FULL)
        self.same(seen(array), (
            part_of_great(2, 2, 4),
            2,
            ("kept", "lost", "kept", "filling", "kept", "kept", "new"),
            (
                ((1, 2), (3, 4)), (None, None), ((0, 0), (65520, 65520)), ((9, 8), (7, 6)),
                ((10, 20), (30, 40)), ((0, 1), (1, 0)), ((5, 5), (6, 6)),
            ),
            (
                ((1, 2), None, (0, 0), None, (10, 20), (0, 1)),
                ((3, 4), None, (65520, 65520), None, (30, 40), (1, 0)),
            ),
        ))
        self.same(array_text(array), FULL)

    def test_a_new_shelf_without_sums(self):
        array = filled((7, 1, 1, (), 0), [((4,),), ((5,),)])
        array.new((), ((6,), (0,)))
        texts = ("shape 7 1 1 0 2", "shelf 0 kept 4 5", "column: shelf 1 new 6 0")
        self.same(array_text(array), texts)
        self.same(seen(read_array(texts)), seen(array))
        for wrong in ("column : shelf 1 new 6 0", "column 1: shelf 1 new 6 0", "column:shelf 1 new 6 0"):
            self.refused(BadText, 2, read_array, with_text(texts, 2, wrong))

    def test_there_and_back(self):
        numbers = Numbers(3)
        for shape in STANDING:
            p, wide, n, table, e = shape
            for lost in some_losses(shape, e, 6):
                rows = 64 if wide == 2 else 1 + numbers.below(3)
                array = filled(shape, [numbers.matrix(shelves(shape), wide, p) for _ in range(rows)])
                for shelf in lost:
                    array.lose(shelf)
                    if numbers.below(2):
                        array.replace(shelf, numbers.matrix(rows, wide, p))
                if shape[0] == 65521 and n < 6:
                    array.new(tuple(row[n] for row in GREAT_TABLE[:len(table)]), numbers.matrix(rows, wide, p))
                elif not table and n < 6:
                    array.new((), numbers.matrix(rows, wide, p))
                texts = array_text(array)
                other = read_array(texts)
                self.same(seen(other), seen(array))
                self.same(array_text(other), texts)
                self.same(array_text(array), texts)

    def test_it_is_a_new_array(self):
        one, two = read_array(FULL), read_array(FULL)
        one.lose(6)
        do(one, (((0, 0, (7, 7)),),))
        self.same(array_text(two), FULL)
        self.same(two.cell(0, 0), (1, 2))
        two.lose(3)
        two.replace(1, ((1, 1), (2, 2)))
        self.same(two.state(1), "filling")

    def test_rows_need_not_be_right(self):
        texts = ("shape 7 1 2 1 1", "sum 1 1", "sum 1 2", "sum 1 4") + tuple(
            f"shelf {shelf} kept {shelf}" for shelf in range(5)
        )
        self.same(array_text(read_array(texts)), texts)


class WrongTexts(Case):
    def wrong(self, at, texts):
        """The texts are refused, with this index."""
        with self.subTest(texts=texts[at] if 0 <= at < len(texts) else texts):
            self.refused(BadText, at, read_array, texts)

    def test_what_is_no_tuple_of_texts(self):
        for texts in NO_TUPLES + (nested(50), (0,) * 9999):
            self.refused(BadText, -1, read_array, texts)
        for thing in NO_NUMBERS:
            if not isinstance(thing, str):
                for at in (0, 3, 6):
                    self.refused(BadText, -1, read_array, with_text(EXAMPLE, at, thing))
        self.refused(BadText, -1, read_array, ("wrong", None))

    def test_the_first_text(self):
        self.wrong(0, ())
        for text in (
            "", " ", "shape", "shape 2 1 2 1", "shape 2 1 2 1 1 1", "Shape 2 1 2 1 1", "2 1 2 1 1", "x" * 9999,
        ):
            self.wrong(0, with_text(EXAMPLE, 0, text))
            self.wrong(0, (text,))
        for text in (
            " shape 2 1 2 1 1", "shape 2 1 2 1 1 ", "shape  2 1 2 1 1", "shape 2 1 2 1 1\n", "shape\t2 1 2 1 1",
        ):
            self.wrong(0, with_text(EXAMPLE, 0, text))
        for at in range(5):
            for word in NO_FIGURES + ("-0", "65"):
                numbers = ["2", "1", "2", "1", "1"]
                numbers[at] = word
                self.wrong(0, with_text(EXAMPLE, 0, " ".join(["shape"] + numbers)))

    def test_the_limits_of_the_first_text(self):
        for text in (
            "shape 1 1 2 1 1", "shape 4 1 2 1 1", "shape 65537 1 2 1 1", "shape 65522 1 2 1 1", "shape 0 1 2 1 1",
            "shape 2 0 2 1 1", "shape 2 33 2 1 1", "shape 2 1 0 1 1", "shape 2 1 7 1 1", "shape 2 1 2 4 1",
            "shape 2 1 2 1 0", "shape 2 1 2 1 65",
        ):
            self.wrong(0, with_text(EXAMPLE, 0, text))
        most = ("shape 65521 32 6 0 64",) + tuple(
            f"shelf {x} kept " + " ".join([".".join(["65520"] * 32)] * 64) for x in range(6)
        )
        self.same(array_text(read_array(most)), most)
        least = ("shape 2 1 1 0 1", "shelf 0 kept 1")
        self.same(array_text(read_array(least)), least)

    def test_the_sums(self):
        for at in (1, 2):
            for text in (
                "sum ", "sum 1", "sum 1 0 1", "sum  1 0", "sum 1  0", "sum 1 0 ", "sum 1 0\n", "sum 2 0", "sum x",
            ):
                self.wrong(at, with_text(EXAMPLE, at, text))
            for word in NO_FIGURES:
                self.wrong(at, with_text(EXAMPLE, at, f"sum 1 {word}"))
                self.wrong(at, with_text(EXAMPLE, at, f"sum {word} 1"))
        self.wrong(1, with_text(with_text(EXAMPLE, 1, "sum 1 2"), 2, "sum 1 2"))

    def test_a_sixth_sum(self):
        shape = (65521, 1, 2, tuple(row[:2] for row in GREAT_TABLE), 3)
        texts = array_text(Array(shape, 1))
        self.same(array_text(read_array(texts)), texts)
        self.wrong(6, texts[:6] + ("sum 1 1",) + texts[6:])
        self.wrong(6, texts[:6] + ("sum 1 1", "sum 1 1"))
        self.wrong(6, texts[:6] + ("sum x",) + texts[6:])
        self.wrong(3, with_text(texts[:6] + ("sum 1 1",) + texts[6:], 3, "sum 1"))

    def test_a_sum_that_stands_elsewhere_is_no_sum(self):
        # With just one sum the shape does not stand, whatever follows.
        self.refused(NotStanding, 0, read_array, EXAMPLE[:2] + EXAMPLE[3:4] + EXAMPLE[2:3] + EXAMPLE[4:])
        for text in ("sum", "Sum 0 1", " sum 0 1", "sum\t0 1", "sums 0 1"):
            self.refused(NotStanding, 0, read_array, with_text(EXAMPLE, 2, text))
        self.wrong(3, EXAMPLE[:3] + ("sum",) + EXAMPLE[3:])
        self.wrong(4, EXAMPLE[:4] + EXAMPLE[2:3] + EXAMPLE[4:])

    def test_a_shape_that_does_not_stand(self):
        self.refused(NotStanding, 0, read_array, ("shape 7 1 2 1 1", "sum 1 1", "sum 1 2", "sum 1 3"))
        self.refused(NotStanding, 0, read_array, ("shape 7 1 2 1 1",))
        self.refused(NotStanding, 0, read_array, with_text(with_text(EXAMPLE, 2, "sum 1 0"), 3, "wrong"))
        self.wrong(2, with_text(with_text(EXAMPLE, 2, "sum 2 0"), 3, "wrong"))

    def test_the_shelves(self):
        for at in range(FIRST_SHELF, NEW_SHELF):
            number = at - FIRST_SHELF
            for text in (
                "", "shelf", f"shelf {number}", f"shelf {number} kept", f"shelf {number} kept 1.2",
                f"shelf {number} kept 1.2 3.4 5.6", f"shelf {number} kept 1.2 3", f"shelf {number} kept 1.2 3.4.5",
                f"shelf {number} kept 1.2 3.", f"shelf {number} kept .1 2.3", f"shelf {number} kept 1..2 2.3",
                f"shelf {number} kept 1.2 65521.0", f"shelf {number} kept 1.2  3.4", f"shelf {number}  kept 1.2 3.4",
                f" shelf {number} kept 1.2 3.4", f"shelf {number} kept 1.2 3.4 ", f"shelf {number} kept 1.2 3.4\n",
                f"shelf 0{number} kept 1.2 3.4", f"shelf {number + 1} kept 1.2 3.4", f"shelf -{number} kept 1.2 3.4",
                f"shelf {number} new 1.2 3.4", f"shelf {number} Kept 1.2 3.4", f"shelf {number} 1.2 3.4",
                f"shelf {number} lost 1.2 3.4", f"shelf {number} lost ", f"shelf {number} filling",
                f"shelf {number} broken 1.2 3.4", f"shelf kept {number} 1.2 3.4", f"Shelf {number} kept 1.2 3.4",
                f"shelf {number}: kept 1.2 3.4", f"sum {number} kept 1.2 3.4",
            ):
                if not (at == FIRST_SHELF and text.startswith("sum ")):
                    self.wrong(at, with_text(FULL, at, text))
            for word in NO_FIGURES:
                if word != "1.0":
                    self.wrong(at, with_text(FULL, at, f"shelf {number} kept 1.2 3.{word}"))
                    self.wrong(at, with_text(FULL, at, f"shelf {number} kept {word}.2 3.4"))

    def test_a_shelf_that_is_not_there(self):
        for many in range(FIRST_SHELF, NEW_SHELF):
            self.wrong(many, FULL[:many])
        self.wrong(10, FULL[:10] + FULL[11:])
        self.wrong(9, FULL[:9] + FULL[10:])
        self.wrong(6, with_text(with_text(FULL, 6, FULL[7]), 7, FULL[6]))

    def test_more_than_e_that_are_not_kept(self):
        lost = tuple(f"shelf {number} lost" for number in range(6))
        filling = tuple(f"shelf {number} filling 1.2 3.4" for number in range(6))
        for one, two, three in ((lost, lost, lost), (lost, filling, lost), (filling, filling, filling)):
            texts = FULL[:5] + (one[0], FULL[7].replace(" 2 ", " 1 "), two[2], three[3]) + FULL[9:]
            self.wrong(8, texts)
            self.wrong(9, with_text(with_text(FULL, 9, one[4]), 10, "wrong"))
            self.wrong(5 + 2, FULL[:5] + (one[0], two[1], three[2]))
        self.wrong(1, ("shape 7 1 2 0 1", "shelf 0 lost", "shelf 1 lost"))
        self.wrong(2, ("shape 7 1 2 0 1", "shelf 0 kept 0", "shelf 1 filling 0"))
        # Just e of them may be.
        texts = FULL[:5] + lost[:2] + FULL[7:8] + ("shelf 3 kept 1.2 3.4",) + FULL[9:]
        self.same(array_text(read_array(texts)), texts)

    def test_the_new_shelf(self):
        for text in (
            "", "column", "column ", "column: shelf 6 new 5.5 6.6", "column 4567 32230 39761: shelf 6 new 5.5 6.6",
            "column 4567 32230 39761 3295 1: shelf 6 new 5.5 6.6", "column 4567 32230 39761 65521: shelf 6 new 5.5 6.6",
            "column 4567 32230 39761 3295 : shelf 6 new 5.5 6.6", "column 4567 32230 39761 3295:shelf 6 new 5.5 6.6",
            "column 4567 32230 39761 3295:  shelf 6 new 5.5 6.6", "column 4567 32230 39761 3295 shelf 6 new 5.5 6.6",
            "column 4567 32230 39761 3295: shelf 5 new 5.5 6.6", "column 4567 32230 39761 3295: shelf 7 new 5.5 6.6",
            "column 4567 32230 39761 3295: shelf 6 kept 5.5 6.6", "column 4567 32230 39761 3295: shelf 6 new 5.5",
            "column 4567 32230 39761 3295: shelf 6 new", "column 4567 32230 39761 3295: shelf 6 lost",
            "column 4567 32230 39761 3295: shelf 6 new 5.5 6.6 7.7", "column 4567 32230 39761 3295: shelf 6 new 5 6",
            "column 4567 32230 39761 3295: shelf 6 new 5.5 6.65521", "column 4567 32230 39761 3295: ",
            "column  4567 32230 39761 3295: shelf 6 new 5.5 6.6", " column 4567 32230 39761 3295: shelf 6 new 5.5 6.6",
            "column 4567 32230 39761 3295: shelf 6 new 5.5 6.6 ", "column 4567 32230 39761 3295: shelf 6 new 5.5 6.6: ",
            "column 04567 32230 39761 3295: shelf 6 new 5.5 6.6", "Column 4567 32230 39761 3295: shelf 6 new 5.5 6.6",
            "shelf 6 new 5.5 6.6", "shelf 6 kept 5.5 6.6", "sum 1 2", ": shelf 6 new 5.5 6.6",
        ):
            self.wrong(11, with_text(FULL, 11, text))
        for word in NO_FIGURES:
            self.wrong(11, with_text(FULL, 11, f"column 4567 32230 39761 {word}: shelf 6 new 5.5 6.6"))
            self.wrong(11, with_text(FULL, 11, f"column 4567 32230 39761 3295: shelf 6 new 5.5 6.{word}"))

    def test_a_new_shelf_with_which_the_shape_does_not_stand(self):
        for column in ("0 0 0 0", "31118 10952 14224 10629", "1 0 0 0"):
            self.wrong(11, with_text(FULL, 11, f"column {column}: shelf 6 new 5.5 6.6"))

    def test_a_seventh_data_shelf(self):
        texts = array_text(Array((7, 1, 6, (), 0), 1))
        self.wrong(7, texts + ("column: shelf 6 new 0",))

    def test_a_text_behind_the_last_one(self):
        self.wrong(12, FULL + FULL[11:])
        self.wrong(12, FULL + ("",))
        self.wrong(12, FULL + ("", ""))
        self.wrong(11, FULL[:11] + ("", FULL[11]))
        self.wrong(7, EXAMPLE + ("",))
        self.wrong(7, EXAMPLE + EXAMPLE[6:])

    def test_no_other_error_comes_of_any_text(self):
        numbers = Numbers(5)
        texts = FULL + EXAMPLE + array_text(with_data(SHAPE, [((3,), (5,))]))
        signs = "shape sum lfknew:.0129 column"
        for _ in range(600):
            found = list((FULL, EXAMPLE)[numbers.below(2)])
            at = numbers.below(len(found))
            place = numbers.below(len(found[at]) + 1)
            kind = numbers.below(4)
            if kind == 0:
                found[at] = found[at][:place] + signs[numbers.below(len(signs))] + found[at][place:]
            elif kind == 1:
                found[at] = found[at][:place] + found[at][place + 1:]
            elif kind == 2:
                found[at] = texts[numbers.below(len(texts))]
            else:
                found.insert(at, texts[numbers.below(len(texts))])
            try:
                self.same(array_text(read_array(tuple(found))), tuple(found))
            except Refused as wrong:
                self.assertIn(wrong.__class__, (BadText, NotStanding))

    def test_of_the_greatest_array(self):
        numbers = Numbers(7)
        array = with_data(GREAT, [numbers.matrix(6, 32, 65521) for _ in range(64)])
        array.lose(3)
        array.lose(10)
        array.replace(10, numbers.matrix(64, 32, 65521))
        texts = array_text(array)
        self.same(len(texts), 17)
        self.same(seen(read_array(texts)), seen(array))


if __name__ == "__main__":
    unittest.main()
