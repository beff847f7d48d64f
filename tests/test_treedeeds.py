"""Deeds on plain trees [58]: making [59], writing and cutting [60], dropping [61], linking, moving [62], limits [63]."""

import unittest

from sumstand.errors import (
    BadLimit, BadPath, BadRange, BadSize, BadWords, Loop, NoThing, NotEmpty, NotFile, NotFolder, OverLimit, There,
    TooLong, TooMany, Top, Within,
)
from sumstand.filedeeds import cut_to, made_file, written
from sumstand.folderdeeds import dropped, limited, made_folder, made_signpost
from sumstand.linkdeeds import linked, moved
from tests.helpers import Case, NO_NUMBERS, NO_TUPLES, nested
from tests.stores import Drawn
from tests.treemodel import Model, ModelRefused, plain_of

EMPTY = (None, (2, (), None))

NO_SIZES = NO_NUMBERS + (-1, -10**999)


def tree_by(*deeds, tree=EMPTY, prime=257):
    for deed in deeds:
        tree = done(tree, prime, deed)
    return tree


def done(tree, prime, deed):
    """The tree behind a deed as a value."""
    word, *rest = deed
    if word == "drop":
        return dropped(tree, *rest)
    calls = {
        "make_file": made_file, "make_folder": made_folder, "signpost": made_signpost, "write": written, "cut": cut_to,
        "link": linked, "move": moved, "limit": limited,
    }
    return calls[word](tree, prime, *rest)


# "/" has a folder "a" with a file "x", a file "f" of two words, a signpost "s" to "/a" and one, "l", to itself.
TREE = tree_by(
    ("make_folder", "/a"), ("make_file", "/a/x"), ("make_file", "/f"), ("write", "/f", 0, (7, 8)),
    ("signpost", "/a", "/s"), ("signpost", "/l", "/l"),
)


class Making(Case):
    def test_one_of_each(self):
        self.same(made_folder(EMPTY, 257, "/a"), (None, (2, (("a", 2),), None), (2, (), None)))
        self.same(made_file(EMPTY, 257, "/a"), (None, (2, (("a", 2),), None), (1, (), None)))
        self.same(made_signpost(EMPTY, 257, "/b/c", "/a"), (None, (2, (("a", 2),), None), (3, "/b/c", None)))
        self.same(made_signpost(EMPTY, 257, "/", "/a")[2], (3, "/", None))
        self.same(made_file(path="/a", prime=257, tree=EMPTY), made_file(EMPTY, 257, "/a"))
        self.same(made_signpost(path="/a", text="/b", prime=257, tree=EMPTY)[2], (3, "/b", None))
        self.same(made_folder(path="/a", prime=257, tree=EMPTY), made_folder(EMPTY, 257, "/a"))

    def test_names_are_in_their_order(self):
        tree = tree_by(*[("make_file", "/" + name) for name in ("b", "_", "0", "a", "aa", "-", "z", "ab")])
        self.same([name for name, _ in tree[1][1]], ["a", "aa", "ab", "b", "z", "0", "_", "-"])
        self.same([number for _, number in tree[1][1]], [5, 6, 9, 2, 8, 4, 3, 7])

    def test_the_least_free_number(self):
        tree = tree_by(*[("make_file", f"/f{number}") for number in range(5)])
        tree = tree_by(("drop", "/f1"), ("drop", "/f3"), tree=tree)
        self.same([thing is None for thing in tree], [True, False, False, True, False, True, False])
        tree = tree_by(("make_folder", "/g"), ("signpost", "/", "/h"), ("make_file", "/i"), tree=tree)
        self.same(tree[3:], ((2, (), None), (1, (), None), (3, "/", None), (1, (), None), (1, (), None)))
        self.same(dict(tree[1][1]), {"f0": 2, "f2": 4, "f4": 6, "g": 3, "h": 5, "i": 7})

    def test_the_end_is_no_none(self):
        tree = tree_by(("make_file", "/a"), ("make_file", "/b"), ("make_file", "/c"), ("drop", "/b"), ("drop", "/c"))
        self.same(tree, (None, (2, (("a", 2),), None), (1, (), None)))
        self.same(dropped(tree, "/a"), EMPTY)

    def test_beneath_folders_and_over_signposts(self):
        tree = made_file(TREE, 257, "/a/y")
        self.same(tree[2], (2, (("x", 3), ("y", 7)), None))
        self.same(made_file(TREE, 257, "/s/y"), tree)
        self.same(made_folder(TREE, 257, "/s/y")[7], (2, (), None))
        self.same(made_signpost(TREE, 257, "/s/y", "/s/y")[7], (3, "/s/y", None))

    def test_the_text_ahead_of_the_path(self):
        for text in ("", "a", "/a/", None, 3, ("/a",), True):
            self.refused(BadPath, text, made_signpost, TREE, 257, text, "a")
            self.refused(BadPath, text, made_signpost, TREE, 257, text, "/")
        self.refused(BadPath, "a", made_signpost, TREE, 257, "/no/where", "a")
        self.refused(There, "/a", made_signpost, TREE, 257, "/no/where", "/a")

    def test_a_signpost_that_is_too_long(self):
        text = "/" + "/".join(["a" * 12] * 20)
        self.assertEqual(len(text), 260)
        self.refused(TooLong, 260, made_signpost, EMPTY, 257, text, "/s")
        self.same(made_signpost(EMPTY, 263, text, "/s")[2], (3, text, None))
        self.refused(TooLong, 257, made_signpost, EMPTY, 257, text[:257], "/s")
        self.same(made_signpost(EMPTY, 257, text[:256], "/s")[2], (3, text[:256], None))
        # What resolving raises comes ahead; the signpost's own content ahead of the folder's.
        self.refused(There, "/f", made_signpost, TREE, 257, text, "/f")
        full = full_folder()
        self.refused(TooLong, 260, made_signpost, full, 257, text, "/d/zz")
        self.refused(TooLong, 259, made_signpost, full, 257, "/", "/d/b")

    def test_a_folder_that_is_too_long(self):
        full = full_folder()
        for call in (made_file, made_folder):
            self.refused(TooLong, 259, call, full, 257, "/d/b")
            self.refused(There, "/d/a0", call, full, 257, "/d/a0")
            self.same(call(dropped(full, "/d/a0"), 257, "/d/c0")[3], full[3] if call == made_file else (2, (), None))
            # One more sign than the name that went is one word too many.
            self.refused(TooLong, 257, call, dropped(full, "/d/a0"), 257, "/d/c00")
            self.same(len(call(full, 263, "/d/b")[2][1]), 65)


def full_folder():
    """A tree with a folder "d" whose entries have just 256 words, 64 with names of two signs."""
    names = [first + second for first in "ab" for second in "0123456789abcdefghijklmnopqrstuv"]
    tree = made_folder(EMPTY, 263, "/d")
    for name in names:
        tree = made_file(tree, 263, "/d/" + name)
    return tree


class Writing(Case):
    def words(self, tree):
        return tree[4][1]

    def test_the_example(self):
        self.same(self.words(written(TREE, 257, "/f", 4, (5,))), (7, 8, 0, 0, 5))
        self.same(self.words(cut_to(written(TREE, 257, "/f", 4, (5,)), 257, "/f", 1)), (7,))
        self.refused(TooLong, 257, written, TREE, 257, "/f", 256, (1,))

    def test_amid_at_the_end_and_past_it(self):
        for at, words, due in (
            (0, (1,), (1, 8)), (1, (1,), (7, 1)), (0, (1, 2), (1, 2)), (1, (1, 2, 3), (7, 1, 2, 3)), (2, (9,), (7, 8, 9)),
            (3, (9,), (7, 8, 0, 9)), (0, (0, 0, 0), (0, 0, 0)), (255, (256,), (7, 8) + (0,) * 253 + (256,)),
        ):
            self.same(self.words(written(TREE, 257, "/f", at, words)), due)
        self.same(written(words=(1,), at=0, path="/f", prime=257, tree=TREE), written(TREE, 257, "/f", 0, (1,)))

    def test_without_words_nothing_changes_whatever_at_is(self):
        for at in (0, 1, 2, 3, 255, 256, 257, 10**999):
            self.same(written(TREE, 257, "/f", at, ()), TREE)

    def test_too_long(self):
        self.same(len(self.words(written(TREE, 257, "/f", 0, (1,) * 256))), 256)
        self.refused(TooLong, 257, written, TREE, 257, "/f", 0, (1,) * 257)
        self.refused(TooLong, 257, written, TREE, 257, "/f", 255, (1, 2))
        self.refused(TooLong, 10**999 + 1, written, TREE, 257, "/f", 10**999, (1,))
        self.same(len(self.words(written(TREE, 65521, "/f", 65519, (1,)))), 65520)
        self.refused(TooLong, 65521, written, TREE, 65521, "/f", 65520, (1,))

    def test_wrong_places_and_words(self):
        for at in NO_SIZES:
            self.refused(BadRange, at, written, TREE, 257, "/f", at, (1,))
            self.refused(BadRange, at, written, TREE, 257, "/no", at, None)
        for words in NO_TUPLES:
            self.refused(BadWords, -1, written, TREE, 257, "/f", 0, words)
            self.refused(BadWords, -1, written, TREE, 257, "/no", 0, words)
        for word in NO_NUMBERS + (-1, 257, 10**999):
            self.refused(BadWords, 0, written, TREE, 257, "/f", 0, (word,))
            self.refused(BadWords, 2, written, TREE, 257, "/a", 0, (0, 256, word, None))
        self.refused(BadWords, 1, written, TREE, 257, "/f", 10**6, (1, 257))
        self.refused(BadWords, 0, written, TREE, 257, "/f", 0, nested(50))

    def test_what_is_no_file(self):
        for path in ("/", "/a", "/s"):
            self.refused(NotFile, path, written, TREE, 257, path, 0, ())
            self.refused(NotFile, path, written, TREE, 257, path, 300, (1,))
            self.refused(NotFile, path, cut_to, TREE, 257, path, 300)
        self.refused(NoThing, "/no", written, TREE, 257, "/no", 300, (1,))
        self.refused(Loop, "/l", written, TREE, 257, "/l", 300, (1,))

    def test_cutting(self):
        for size, due in ((0, ()), (1, (7,)), (2, (7, 8)), (3, (7, 8, 0)), (256, (7, 8) + (0,) * 254)):
            self.same(self.words(cut_to(TREE, 257, "/f", size)), due)
        self.same(cut_to(size=1, path="/f", prime=257, tree=TREE), cut_to(TREE, 257, "/f", 1))
        for size in (257, 258, 10**999):
            self.refused(TooLong, size, cut_to, TREE, 257, "/f", size)
        for size in NO_SIZES:
            self.refused(BadSize, size, cut_to, TREE, 257, "/f", size)
            self.refused(BadSize, size, cut_to, TREE, 257, "/no", size)

    def test_a_file_with_many_names(self):
        tree = linked(TREE, 257, "/f", "/a/g")
        self.same(written(tree, 257, "/a/g", 0, (1,)), written(tree, 257, "/f", 0, (1,)))
        self.same(cut_to(tree, 257, "/s/g", 1), cut_to(tree, 257, "/f", 1))


class Dropping(Case):
    def test_files_signposts_and_empty_folders(self):
        self.same(dropped(TREE, "/f")[4], None)
        self.same(dropped(TREE, "/s")[5], None)
        self.same(dropped(dropped(TREE, "/a/x"), "/a")[2:4], (None, None))
        self.same(dropped(path="/f", tree=TREE), dropped(TREE, "/f"))
        self.same(dropped(TREE, "/s/x"), dropped(TREE, "/a/x"))

    def test_a_signpost_is_not_followed(self):
        tree = made_signpost(TREE, 257, "/f", "/t")
        self.same(dropped(tree, "/t"), TREE)
        self.same(dropped(TREE, "/l"), dropped(TREE, "/l"))

    def test_a_file_with_many_names_stays(self):
        tree = linked(linked(TREE, 257, "/f", "/a/g"), 257, "/f", "/h")
        self.same(dropped(dropped(tree, "/a/g"), "/h"), TREE)
        self.same(dropped(dropped(tree, "/f"), "/h")[4], (1, (7, 8), None))
        self.same(dropped(dropped(dropped(tree, "/f"), "/h"), "/a/g")[4], None)

    def test_refusals(self):
        self.refused(Top, "/", dropped, TREE, "/")
        self.refused(Top, "/", dropped, EMPTY, "/")
        self.refused(NotEmpty, "/a", dropped, TREE, "/a")
        self.refused(NoThing, "/no", dropped, TREE, "/no")
        self.refused(NoThing, "/s/no", dropped, TREE, "/s/no")
        self.refused(NoThing, "/no/a", dropped, TREE, "/no/a")
        self.refused(NotFolder, "/f/a", dropped, TREE, "/f/a")
        self.refused(NotFolder, "/a/x/y", dropped, TREE, "/a/x/y")
        self.refused(Loop, "/l/a", dropped, TREE, "/l/a")


class Linking(Case):
    def test_a_further_name(self):
        tree = linked(TREE, 257, "/f", "/a/g")
        self.same(tree[2], (2, (("g", 4), ("x", 3)), None))
        self.same(tree[4], TREE[4])
        self.same(linked(TREE, 257, "/s/x", "/s/y")[2], (2, (("x", 3), ("y", 3)), None))
        self.same(linked(new="/g", path="/f", prime=257, tree=TREE), linked(TREE, 257, "/f", "/g"))

    def test_refusals_in_their_order(self):
        self.refused(BadPath, "f", linked, TREE, 257, "f", "g")
        self.refused(BadPath, "g", linked, TREE, 257, "/no", "g")
        self.refused(NoThing, "/no", linked, TREE, 257, "/no", "/")
        self.refused(NotFolder, "/f/x", linked, TREE, 257, "/f/x", "/no/x")
        self.refused(Loop, "/l/x", linked, TREE, 257, "/l/x", "/l/y")
        self.refused(NoThing, "/no/x", linked, TREE, 257, "/a", "/no/x")
        self.refused(NotFolder, "/f/g", linked, TREE, 257, "/a", "/f/g")
        self.refused(Loop, "/l/x", linked, TREE, 257, "/a", "/l/x")
        for new in ("/", "/f", "/a", "/s", "/s/x", "/l"):
            self.refused(There, new, linked, TREE, 257, "/a", new)
        for path in ("/", "/a", "/s", "/l"):
            self.refused(NotFile, path, linked, TREE, 257, path, "/g")

    def test_too_many_and_too_long(self):
        tree = made_file(EMPTY, 263, "/f")
        for number in range(1, 255):
            if number % 20 == 1:
                tree = made_folder(tree, 263, f"/d{number // 20}")
            tree = linked(tree, 263, "/f", f"/d{(number - 1) // 20}/n{number}")
        self.same(linked(tree, 257, "/f", "/more")[1][1][-1][0], "more")
        more = linked(tree, 263, "/f", "/more")
        self.refused(TooMany, 257, linked, more, 257, "/f", "/again")
        self.refused(There, "/f", linked, more, 257, "/f", "/f")
        self.refused(NotFile, "/d0", linked, more, 257, "/d0", "/again")
        self.same(len(linked(more, 263, "/f", "/again")[1][1]), len(more[1][1]) + 1)
        full = made_file(full_folder(), 263, "/f")
        self.refused(TooLong, 259, linked, full, 257, "/f", "/d/b")
        # Too many names come ahead of a folder that is too long.
        full = linked(full, 263, "/f", "/d/zz")
        for number in range(254):
            if number % 20 == 0:
                full = made_folder(full, 263, f"/e{number // 20}")
            full = linked(full, 263, "/f", f"/e{number // 20}/n{number}")
        self.refused(TooMany, 257, linked, full, 257, "/f", "/d/yy")


class Moving(Case):
    def test_files_folders_and_signposts(self):
        self.same(moved(TREE, 257, "/f", "/g")[1][1], (("a", 2), ("g", 4), ("l", 6), ("s", 5)))
        self.same(moved(TREE, 257, "/f", "/a/f")[1:3], (
            (2, (("a", 2), ("l", 6), ("s", 5)), None), (2, (("f", 4), ("x", 3)), None),
        ))
        self.same(moved(TREE, 257, "/a", "/b")[1][1][0], ("b", 2))
        self.same(moved(TREE, 257, "/l", "/a/l")[2], (2, (("l", 6), ("x", 3)), None))
        self.same(moved(new="/g", path="/f", prime=257, tree=TREE), moved(TREE, 257, "/f", "/g"))
        self.same(moved(TREE, 257, "/s/x", "/s/y"), moved(TREE, 257, "/a/x", "/a/y"))

    def test_one_name_of_many(self):
        tree = linked(TREE, 257, "/f", "/a/g")
        self.same(moved(tree, 257, "/a/g", "/a/h")[2], (2, (("h", 4), ("x", 3)), None))
        self.same(dropped(moved(tree, 257, "/a/g", "/h"), "/h"), TREE)

    def test_onto_itself_is_there(self):
        for path in ("/f", "/a", "/s", "/a/x"):
            self.refused(There, path, moved, TREE, 257, path, path)
        self.refused(There, "/s/x", moved, TREE, 257, "/a/x", "/s/x")

    def test_a_folder_into_itself_and_beneath_itself(self):
        tree = tree_by(("make_folder", "/a/b"), ("make_folder", "/a/b/c"), ("signpost", "/a/b", "/t"), tree=TREE)
        for new in ("/a/n", "/a/b/n", "/a/b/c/n", "/s/n", "/t/n", "/t/c/n"):
            self.refused(Within, "/a", moved, tree, 257, "/a", new)
        self.refused(Within, "/s/b", moved, tree, 257, "/s/b", "/t/n")
        self.same(moved(tree, 257, "/a/b/c", "/a/c")[2][1], (("b", 7), ("c", 8), ("x", 3)))
        self.same(moved(tree, 257, "/a/b", "/b")[1][1][:2], (("a", 2), ("b", 7)))
        # A signpost to a folder and a file may be moved beneath it.
        self.same(moved(tree, 257, "/s", "/a/s")[5], (3, "/a", None))
        self.same(moved(tree, 257, "/a/x", "/a/b/x")[7][1], (("c", 8), ("x", 3)))

    def test_refusals_in_their_order(self):
        self.refused(BadPath, "f", moved, TREE, 257, "f", "g")
        self.refused(BadPath, "g", moved, TREE, 257, "/", "g")
        self.refused(NoThing, "/no", moved, TREE, 257, "/no", "/")
        self.refused(NotFolder, "/f/x", moved, TREE, 257, "/f/x", "/")
        self.refused(Loop, "/l/x", moved, TREE, 257, "/l/x", "/")
        self.refused(There, "/", moved, TREE, 257, "/", "/")
        self.refused(There, "/f", moved, TREE, 257, "/", "/f")
        self.refused(NoThing, "/no/x", moved, TREE, 257, "/", "/no/x")
        self.refused(Top, "/", moved, TREE, 257, "/", "/a/n")
        self.refused(Top, "/", moved, TREE, 257, "/", "/n")

    def test_too_long(self):
        full = full_folder()
        # Within one folder the name that goes makes room.
        self.same(len(moved(full, 257, "/d/a0", "/d/zz")[2][1]), 64)
        self.refused(TooLong, 257, moved, full, 257, "/d/a0", "/d/zzz")
        self.refused(TooLong, 259, moved, made_file(full, 263, "/f"), 257, "/f", "/d/f")
        self.refused(TooLong, 260, moved, made_file(full, 263, "/f"), 257, "/f", "/d/ff")
        # What is too long already, but gains no name, is not asked.
        over = made_file(full, 263, "/d/zzz")
        self.same(len(moved(over, 257, "/d/zzz", "/zzz")[2][1]), 64)


class Limiting(Case):
    def test_limits_and_none(self):
        self.same(limited(TREE, 257, "/a", 0)[2], (2, (("x", 3),), 0))
        self.same(limited(limited(TREE, 257, "/a", 5), 257, "/a", 7)[2][2], 7)
        self.same(limited(limited(TREE, 257, "/a", 5), 257, "/s", None), TREE)
        self.same(limited(TREE, 257, "/", 2)[1][2], 2)
        self.same(limited(TREE, 257, "/", 255)[1][2], 255)
        self.same(limited(words=3, path="/", prime=257, tree=TREE)[1][2], 3)

    def test_wrong_limits(self):
        for words in NO_NUMBERS + (-1, 256, 257, 10**999):
            if words is not None:
                self.refused(BadLimit, words, limited, TREE, 257, "/a", words)
                self.refused(BadLimit, words, limited, TREE, 257, "/no", words)
        self.same(limited(TREE, 65521, "/", 65519)[1][2], 65519)
        self.refused(BadLimit, 65520, limited, TREE, 65521, "/", 65520)

    def test_what_is_used_already(self):
        self.refused(OverLimit, "/", limited, TREE, 257, "/", 1)
        self.same(limited(TREE, 257, "/", 2)[1][2], 2)
        # Each file once, however many names it has there; one that has a name there and one elsewhere.
        tree = linked(linked(TREE, 257, "/f", "/a/g"), 257, "/f", "/a/h")
        tree = written(tree, 257, "/a/x", 0, (1, 1, 1))
        self.same(limited(tree, 257, "/a", 5)[2][2], 5)
        self.refused(OverLimit, "/a", limited, tree, 257, "/a", 4)
        self.refused(OverLimit, "/s", limited, tree, 257, "/s", 4)
        self.same(limited(tree, 257, "/", 5)[1][2], 5)
        self.refused(OverLimit, "/", limited, tree, 257, "/", 4)
        # A signpost that leads there has no words.
        self.same(limited(made_signpost(tree, 257, "/f", "/a/s"), 257, "/a", 5)[2][2], 5)

    def test_what_is_no_folder(self):
        self.refused(NotFolder, "/f", limited, TREE, 257, "/f", 0)
        self.refused(NotFolder, "/f", limited, TREE, 257, "/f", None)
        self.refused(NotFolder, "/t", limited, made_signpost(TREE, 257, "/f", "/t"), 257, "/t", 9)
        self.refused(NoThing, "/no", limited, TREE, 257, "/no", 9)

    def test_other_deeds_do_not_ask_limits(self):
        tree = limited(TREE, 257, "/", 2)
        self.same(written(tree, 257, "/f", 2, (1,))[4], (1, (7, 8, 1), None))
        self.same(written(tree, 257, "/f", 2, (1,))[1][2], 2)


class BesideTheModel(Case):
    def test_drawn_deeds(self):
        """Each deed from each tree: what is handed in stays, and what comes of it is as the model has it."""
        for seed in range(5):
            drawn = Drawn(seed)
            model = Model(257, 8, 10**9)
            tree = EMPTY
            for step in range(250):
                deed = drawn.wrong(model.root) if step % 9 == 0 else drawn.deed(model.root)
                if deed[0] in ("snap", "forget", "forget_all", "back"):
                    continue
                before = repr(tree)
                with self.subTest(seed=seed, step=step, deed=deed):
                    try:
                        model.do(deed)
                        behind = done(tree, 257, deed)
                        self.same(behind, plain_of(model.root))
                    except ModelRefused as refused:
                        behind = tree
                        if refused.name != "OverLimit" or deed[0] == "limit":
                            self.hold_refused(tree, deed, refused)
                    self.assertEqual(repr(tree), before)
                tree = behind

    def hold_refused(self, tree, deed, refused):
        with self.assertRaises(ValueError) as caught:
            done(tree, 257, deed)
        self.same((caught.exception.__class__.__name__, caught.exception.what), (refused.name, refused.what))


if __name__ == "__main__":
    unittest.main()
