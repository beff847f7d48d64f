"""Rows of a store [82] and their answers [83]."""

import unittest

from sumstand.errors import Refused
from sumstand.filestore import lay_store
from sumstand.shelves import Array
from tests.arrays import Refusing, seen, spoil
from tests.helpers import NO_NUMBERS, Numbers, nested
from tests.stores import Drawn, ONE, do_deed, empty, filled_store, model_of, told_by
from tests.treemodel import ModelRefused

DEEDS = (
    ("make_folder", "/a"), ("make_file", "/a/x"), ("write", "/a/x", 2, (5, 0, 6)), ("link", "/a/x", "/y"), ("signpost", "/a", "/s"),
    ("snap", "one"), ("cut", "/y", 1), ("make_folder", "/e"), ("make_file", "/f"),
)

NONE = "refused: BadRow 0"

# Each form of a deed, with the deed that it tells.
FORMS = (
    ("file /n", ("make_file", "/n")), ("folder /n", ("make_folder", "/n")), ("signpost /no/where /n", ("signpost", "/no/where", "/n")),
    ("write /f 0: 1 2", ("write", "/f", 0, (1, 2))), ("write /f 9: 0", ("write", "/f", 9, (0,))), ("write /f 999999999:", ("write", "/f", 999999999, ())),
    ("cut /y 3", ("cut", "/y", 3)), ("cut /y 0", ("cut", "/y", 0)), ("drop /s", ("drop", "/s")), ("link /y /n", ("link", "/y", "/n")),
    ("move /y /n", ("move", "/y", "/n")), ("limit /a 9", ("limit", "/a", 9)), ("limit / 255", ("limit", "/", 255)), ("limit /a none", ("limit", "/a", None)),
    ("snap two", ("snap", "two")), ("snap all", ("snap", "all")), ("forget one", ("forget", "one")), ("forget all", ("forget_all",)),
    ("back one", ("back", "one")),
)

# Each form of a question, with its answers in the live tree and in the snapshot "one".
QUESTIONS = (
    ("kind /", "folder", "folder"), ("kind /y", "file", "file"), ("kind /s", "folder", "folder"), ("kind /s/x", "file", "file"),
    ("names /", "a e f s y", "a s y"), ("names /a", "x", "x"), ("names /s", "x", "x"), ("names /e", "-", "refused: NoThing /e"),
    ("size /y", "1", "5"), ("size /f", "0", "refused: NoThing /f"), ("links /s/x", "2", "2"), ("links /f", "1", "refused: NoThing /f"),
    ("read /y 0 9", "0", "0 0 5 0 6"), ("read /y 0 0", "-", "-"), ("read /y 2 2", "-", "5 0"), ("read /y 999999999 999999999", "-", "-"),
    ("read /y 1 1", "-", "0"), ("target /s", "/a", "/a"), ("used /", "1", "5"), ("used /a", "1", "5"), ("used /e", "0", "refused: NoThing /e"),
)


def store():
    return filled_store(150, *DEEDS)


class Answers(Refusing):
    def test_the_examples(self):
        made = empty(60)
        for text, due in (
            ("file /a", "ok"), ("write /a 1: 7", "ok"), ("read /a 0 9", "0 7"), ("names /", "a"), ("snap s", "ok"), ("drop /a", "ok"),
            ("names /", "-"), ("size /a in s", "2"), ("kind /a", "refused: NoThing /a"), ("folder b", "refused: BadPath b"),
            ("write /a 01: 7", "refused: BadRow 0"), ("forget t", "refused: NoSnapshot t"),
        ):
            with self.subTest(text=text):
                self.same(made.row(text), due)

    def test_each_deed(self):
        for text, deed in FORMS:
            with self.subTest(text=text):
                one, two = store(), store()
                self.same(one.row(text=text), "ok")
                do_deed(two, deed)
                self.same(seen(one.array), seen(two.array))
                self.same(told_by(one), told_by(two))

    def test_each_question(self):
        made = store()
        before = seen(made.array)
        for text, live, kept in QUESTIONS:
            with self.subTest(text=text):
                self.same(made.row(text), live)
                self.same(made.row(text + " in one"), kept)
                self.same(made.row(text + " in two"), "refused: NoSnapshot two")
                self.same(made.row(text + " in One"), "refused: BadName One")
                self.same(made.row(text + " in in"), "refused: NoSnapshot in")
        self.same(made.row("free"), str(made.free()))
        self.same(seen(made.array), before)

    def test_a_snapshot_whose_name_is_a_word(self):
        made = store()
        for name in ("in", "all", "none", "free", "kind", "0", "12"):
            self.same(made.row("snap " + name), "ok")
        self.same(made.row("size /y in in"), "1")
        self.same(made.row("kind / in 0"), "folder")
        self.same(made.row("read /y 0 1 in 12"), "0")
        # This forgets all, not the one that is called so.
        self.same(made.row("back all"), "ok")
        self.same(made.row("forget all"), "ok")
        self.same(made.snapshots(), ())

    def test_what_is_refused(self):
        made = store()
        for text, due in (
            ("file /a", "There /a"), ("file /", "There /"), ("file a", "BadPath a"), ("folder /a/", "BadPath /a/"), ("file /y/b", "NotFolder /y/b"),
            ("file /no/b", "NoThing /no/b"), ("signpost a /b", "BadPath a"), ("signpost /a b", "BadPath b"), ("write /a 0: 1", "NotFile /a"),
            ("write /y 0: 257", "BadWords 0"), ("write /y 0: 1 999999999", "BadWords 1"), ("write /y 256: 1", "TooLong 257"),
            ("write y 0: 257", "BadPath y"), ("cut /y 999999999", "TooLong 999999999"), ("cut /y 257", "TooLong 257"), ("cut / 0", "NotFile /"),
            ("drop /", "Top /"), ("drop /a", "NotEmpty /a"), ("link /a /n", "NotFile /a"), ("link /y /a", "There /a"), ("move / /n", "Top /"),
            ("move /a /a/n", "Within /a"), ("move /y /y", "There /y"), ("limit / 256", "BadLimit 256"), ("limit / 0", "OverLimit /"),
            ("limit /y none", "NotFolder /y"), ("snap one", "HasSnapshot one"), ("snap One", "BadName One"), ("snap /", "BadName /"),
            ("forget One", "BadName One"), ("back two", "NoSnapshot two"), ("back " + "a" * 13, "BadName " + "a" * 13),
            ("kind a", "BadPath a"), ("kind /no", "NoThing /no"), ("names /y", "NotFolder /y"), ("size /a", "NotFile /a"), ("links /a", "NotFile /a"),
            ("read /a 0 0", "NotFile /a"), ("target /a", "NotSignpost /a"), ("used /y", "NotFolder /y"), ("kind in", "BadPath in"),
            ("kind in in one", "BadPath in"), ("kind a in One", "BadPath a"), ("file in", "BadPath in"), ("kind /a\n", "BadPath /a\n"),
            ("kind /\u00e4", "BadPath /\u00e4"), ("kind \t", "BadPath \t"), ("snap \u00a0", "BadName \u00a0"),
        ):
            with self.subTest(text=text):
                before = seen(made.array)
                self.same(made.row(text), "refused: " + due)
                self.same(seen(made.array), before)

    def test_no_room_and_over_limit(self):
        made = filled_store(8, ("make_file", "/f"))
        self.same(made.row("free"), "3")
        self.same(made.row("folder /d"), "refused: NoRoom 4")
        self.same(made.row("write /f 0: 1"), "ok")
        made = filled_store(60, ("make_file", "/f"), ("limit", "/", 2))
        self.same(made.row("cut /f 3"), "refused: OverLimit /")
        self.same(made.row("cut /f 2"), "ok")

    def test_a_loop(self):
        made = filled_store(60, ("signpost", "/l", "/l"))
        self.same(made.row("kind /l"), "refused: Loop /l")
        self.same(made.row("target /l"), "/l")


class Wrong(Refusing):
    """Each form, spoilt in each way: a row that is none is answered so, and changes nothing."""

    def none(self, made, *texts):
        before = seen(made.array)
        for text in texts:
            with self.subTest(text=text):
                self.same(made.row(text), NONE)
        self.same(seen(made.array), before)

    def forms(self):
        texts = [text for text, _ in FORMS]
        return texts + [text + more for text, _, _ in QUESTIONS for more in ("", " in one")] + ["free"]

    def test_blanks(self):
        made = store()
        for text in self.forms():
            self.none(made, " " + text, text + " ", text.replace(" ", "  ", 1) if " " in text else text + "  ", "\n" + text)
            if " " in text:
                head, _, tail = text.rpartition(" ")
                self.none(made, head + "  " + tail, text.replace(" ", "\t"))
        self.none(made, "", " ", "  ", "\t", "\n")

    def test_words_too_few(self):
        made = store()
        for text in self.forms():
            words = text.split(" ")
            if words[0] == "write":
                words = words[:3]
            if words[-2:-1] == ["in"]:
                self.none(made, " ".join(words[:-1]))
                words = words[:-2]
            for many in range(len(words)):
                self.none(made, " ".join(words[:many]))

    def test_words_too_many(self):
        made = store()
        for text in self.forms():
            if not text.startswith("write"):
                self.none(made, text + " /a", text + " 0", text + " in", text + " none", text + " in one two")
        for text, _ in FORMS:
            if not text.startswith("write"):
                self.none(made, text + " in one")
        self.none(made, "free in one", "free free", "free 1", "write /f 0: 1 in one", "write /f 0: in one", "kind / in one in one")

    def test_other_words(self):
        made = store()
        for text in self.forms():
            head, blank, tail = text.partition(" ")
            self.none(made, head.upper() + blank + tail, head + "s" + blank + tail, "x" + blank + tail)
        self.none(
            made, "make_file /n", "make_folder /n", "forget_all", "forget all all", "snapshots", "tree", "needed /n", "limit_of /a", "look 0",
            "many", "in one", "kind", "kind in one", "free in", "limit /a None", "limit /a ", "limit /a nothing", "kind / on one", "kind / one",
        )

    def test_figures(self):
        made = store()
        for figures in (
            "", "00", "01", "007", "-1", "+1", "1.", "1.0", "0x1", "1_0", "1e3", "a", "none ", "1000000000", "0000000000", "\u0661", "\u00b2", "1:", ":",
            "1\n", "10" * 300,
        ):
            self.none(
                made, f"cut /y {figures}", f"limit /a {figures}", f"read /y {figures} 1", f"read /y 0 {figures}", f"read /y {figures} 1 in one",
                f"read /y 0 {figures} in one", f"write /f 0: {figures}", f"write /f 0: 1 {figures}", f"write /f 0: {figures} 1",
            )
            if figures != "1:":
                self.none(made, f"write /f {figures}", f"write /f {figures}: 1")
        self.none(made, "write /f 1", "write /f 1 2", "write /f 1 : 2", "write /f :1", "write /f 1:2", "write /f 1: 2: 3", "write /f 1:: 2", "write /f : 2")

    def test_nine_figures(self):
        made = store()
        self.same(made.row("cut /y 999999999"), "refused: TooLong 999999999")
        self.same(made.row("limit /a 999999999"), "refused: BadLimit 999999999")
        self.same(made.row("write /f 999999999: 1"), "refused: TooLong 1000000000")
        self.same(made.row("write /f 0: 999999999"), "refused: BadWords 0")
        self.same(made.row("write /f 100000000:"), "ok")
        self.same(made.row("read /f 999999999 999999999"), "-")

    def test_the_form_ahead_of_what_is_in_it(self):
        made = store()
        self.none(made, "write b 01: 7", "cut b x", "read b 0 x", "read b 0 1 2", "kind b in", "limit b x", "read /y 0 x in T")

    def test_what_is_no_text(self):
        made = store()
        self.none(made, None, 0, 5, -1, 10**999, (), ("file", "/n"), [], ["free"], {}, b"free", b"", nested(50))
        self.none(made, *[thing for thing in NO_NUMBERS if not isinstance(thing, str)])
        self.same(made.row("3"), NONE)

    def test_any_rows(self):
        """It raises nothing, and what is refused changes nothing."""
        numbers = Numbers(7)
        words = (
            "file", "folder", "write", "cut", "drop", "link", "move", "limit", "snap", "forget", "back", "kind", "names", "size", "links", "read",
            "target", "used", "free", "signpost", "in", "all", "none", "/", "/a", "/y", "/f", "/n", "one", "two", "0", "1", "1:", "0:", "7", "x", "",
        )
        made = store()
        ways = {}
        for _ in range(4000):
            text = " ".join(words[numbers.below(len(words))] for _ in range(1 + numbers.below(5)))
            before = seen(made.array) if numbers.below(10) == 0 else None
            answer = made.row(text)
            self.assertIsInstance(answer, str)
            if answer.startswith("refused: ") and before:
                self.same(seen(made.array), before)
            way = answer.split(" ")[1] if answer.startswith("refused: ") else "ok"
            ways[way] = ways.get(way, 0) + 1
        for way in ("ok", "BadRow", "BadPath", "NoThing", "There", "NotFolder"):
            self.assertIn(way, ways)


class BesideMethods(Refusing):
    """A row answers as the method does."""

    def text_of(self, deed):
        word, *rest = deed
        names = {"make_file": "file", "make_folder": "folder"}
        if word == "forget_all":
            return "forget all"
        if word == "write":
            return " ".join(["write", rest[0], f"{rest[1]}:"] + [str(number) for number in rest[2]])
        return " ".join([names.get(word, word)] + ["none" if part is None else str(part) for part in rest])

    def test_drawn_deeds(self):
        for seed in range(3):
            drawn = Drawn(seed)
            one, two = empty(80), empty(80)
            model = model_of(one)
            for _ in range(200):
                deed = drawn.deed(model.root)
                text = self.text_of(deed)
                try:
                    model.do(deed)
                    due = "ok"
                    do_deed(two, deed)
                except ModelRefused as refused:
                    due = f"refused: {refused.name} {refused.what}"
                with self.subTest(text=text):
                    self.same(one.row(text), due)
                    self.same(seen(one.array), seen(two.array))

    def test_drawn_questions(self):
        made = store()
        paths = ("/", "/a", "/y", "/s", "/s/x", "/a/x", "/f", "/e", "/no", "/y/z", "b", "//")
        for word in ("kind", "names", "size", "links", "target", "used", "read"):
            for path in paths:
                for of in (None, "one", "two", "T"):
                    others = (1, 3) if word == "read" else ()
                    try:
                        worth = getattr(made, word)(path, *others, of)
                        due = " ".join(str(part) for part in worth) or "-" if isinstance(worth, tuple) else str(worth)
                    except Refused as refused:
                        due = f"refused: {refused.__class__.__name__} {refused.what}"
                    text = " ".join([word, path] + [str(other) for other in others] + ([] if of is None else ["in", of]))
                    self.same(made.row(text), due)

    def test_a_row_of_the_array_that_is_spoilt(self):
        array = Array(ONE, 20)
        other = lay_store(array)
        spoil(array, 0)
        for text in ("names /", "free", "file /f", "snap s", "kind / in s"):
            before = seen(array)
            self.assertTrue(other.row(text).startswith("refused: "))
            self.same(seen(array), before)


if __name__ == "__main__":
    unittest.main()
