"""Paths [56] and resolving [57]."""

import unittest

from sumstand.errors import BadPath, Loop, NoThing, NotFolder, NotSignpost, There
from sumstand.filedeeds import cut_to, made_file, written
from sumstand.folderdeeds import dropped, limited, made_folder, made_signpost
from sumstand.linkdeeds import linked, moved
from sumstand.paths import is_path
from tests.helpers import Case, NO_NUMBERS, NO_TUPLES, nested
from tests.stores import do_deed, empty, filled_store

TWENTY = "/a" * 20
LONG = "/" + "a" * 12

PATHS = ("/", "/a", "/a/b2", "/-", "/_/0/z", TWENTY, LONG, LONG * 20, "/0", "/a-b_c")

NO_PATHS = (
    "", "a", "a/b", "//", "/a/", "/a//b", "//a", "/a/b/", TWENTY + "/a", LONG + "a", LONG * 21, "/A", "/a/B", "/a b", " /a",
    "/a ", "/a.b", "/.", "/..", "/./a", "/\u00e4", "/a\n", "\n", "/a\\b", "/a:", "/\ud800", "\u2044a", "/" * 260, "/" * 261,
    "/a" * 5000, "/%", "/a\x00",
)

NO_TEXTS = tuple(thing for thing in NO_TUPLES + NO_NUMBERS if not isinstance(thing, str)) + (("/a",), nested(50))


class Judged(Case):
    def test_paths(self):
        for path in PATHS:
            self.same(is_path(path), True)
            self.same(is_path(value=path), True)

    def test_other_texts(self):
        for path in NO_PATHS:
            with self.subTest(path=path[:40]):
                self.same(is_path(path), False)

    def test_other_values(self):
        for thing in NO_TEXTS + (b"/a", ("/", "a")):
            with self.subTest(thing=thing):
                self.same(is_path(thing), False)

    def test_how_many_names_and_how_long(self):
        for many in range(1, 30):
            self.same(is_path("/a" * many), many <= 20)
            self.same(is_path("/" + "a" * many), many <= 12)


def tree_with(*signposts):
    """The example's tree: a folder "a", a file "f", and signposts."""
    tree = made_folder((None, (2, (), None)), 257, "/a")
    tree = made_file(tree, 257, "/f")
    for text, path in signposts:
        tree = made_signpost(tree, 257, text, path)
    return tree


class Resolving(Case):
    EXAMPLE = (("/a", "/b"), ("/c", "/c"))

    def test_the_example(self):
        store = filled_store(60, ("make_folder", "/a"), ("signpost", "/a", "/b"), ("signpost", "/c", "/c"))
        self.same(store.target("/b"), "/a")
        self.same(store.kind("/b"), "folder")
        self.refused(NoThing, "/b/x", store.kind, "/b/x")
        self.refused(Loop, "/c", store.kind, "/c")
        self.same(store.target("/c"), "/c")
        self.refused(Loop, "/c/x", store.target, "/c/x")

    def test_eight_exchanged_and_the_ninth(self):
        # /s0 is the folder itself; each further one leads to the one ahead.
        store = filled_store(120, ("make_folder", "/s0"), ("make_file", "/s0/f"))
        for number in range(1, 10):
            store.signpost(f"/s{number - 1}", f"/s{number}")
        self.same(store.names("/s8"), ("f",))
        self.refused(Loop, "/s9", store.names, "/s9")
        self.same(store.target("/s9"), "/s8")
        self.same(store.size("/s8/f"), 0)
        self.refused(Loop, "/s9/f", store.size, "/s9/f")
        self.refused(NoThing, "/s8/g", store.size, "/s8/g")
        # What is to be made, dropped and moved beneath it is led to in the same way.
        self.refused(Loop, "/s9/g", store.make_file, "/s9/g")
        self.refused(Loop, "/s9/f", store.drop, "/s9/f")
        store.make_file("/s8/g")
        store.drop("/s8/g")
        # Exchanges are counted for a path, not for a name.
        store.signpost("/s4/f", "/t")
        self.same(store.size("/t"), 0)
        store.signpost("/s4", "/s0/u")
        self.same(store.names("/s3/u"), ("f", "u"))
        self.refused(Loop, "/s4/u", store.names, "/s4/u")

    def test_a_ring(self):
        tree = tree_with(("/y", "/x"), ("/z/q", "/y"), ("/x", "/z"))
        for path in ("/x", "/y", "/z"):
            self.refused(Loop, path, written, tree, 257, path, 0, ())
            self.refused(Loop, path + "/n", made_file, tree, 257, path + "/n")
            self.same(dropped(tree, path)[0], None)

    def test_one_that_leads_to_nothing(self):
        tree = tree_with(("/no", "/s"), ("/no/more", "/t"), ("/f/x", "/u"))
        self.refused(NoThing, "/s", cut_to, tree, 257, "/s", 3)
        self.refused(NoThing, "/t", cut_to, tree, 257, "/t", 3)
        self.refused(NotFolder, "/u", cut_to, tree, 257, "/u", 3)
        self.refused(NoThing, "/s/a", made_folder, tree, 257, "/s/a")
        self.refused(NotFolder, "/u/a", made_folder, tree, 257, "/u/a")

    def test_one_that_leads_to_the_topmost_folder(self):
        tree = tree_with(("/", "/s"))
        self.same(made_file(tree, 257, "/s/n"), made_file(tree, 257, "/n"))
        self.same(made_file(tree, 257, "/s/s/s/n"), made_file(tree, 257, "/n"))
        self.same(limited(tree, 257, "/s", 5)[1][2], 5)
        self.refused(There, "/s/f", made_file, tree, 257, "/s/f")

    def test_one_that_leads_to_a_file_with_names_left(self):
        tree = tree_with(("/f", "/s"))
        self.same(written(tree, 257, "/s", 0, (5,))[3], (1, (5,), None))
        self.refused(NotFolder, "/s/x", written, tree, 257, "/s/x", 0, (5,))
        self.refused(NotFolder, "/f/x", written, tree, 257, "/f/x", 0, (5,))
        self.refused(NotFolder, "/s/x", made_file, tree, 257, "/s/x")
        self.refused(NotFolder, "/f/x/y", made_file, tree, 257, "/f/x/y")
        self.refused(NotFolder, "/f/x", dropped, tree, "/f/x")
        self.refused(NotFolder, "/s/x", dropped, tree, "/s/x")

    def test_a_signpost_at_the_end_followed_and_not(self):
        tree = tree_with(("/f", "/s"), ("/s", "/t"))
        self.same(cut_to(tree, 257, "/t", 2)[3], (1, (0, 0), None))
        # Dropping, linking and moving take it as it stands.
        self.same(dropped(tree, "/t")[1:], tree_with(("/f", "/s"))[1:])
        self.same(moved(tree, 257, "/t", "/a/t")[2], (2, (("t", 5),), None))
        self.same(moved(tree, 257, "/t", "/a/t")[5], (3, "/s", None))
        with self.assertRaises(ValueError) as caught:
            linked(tree, 257, "/t", "/a/t")
        self.same((caught.exception.__class__.__name__, caught.exception.what), ("NotFile", "/t"))

    def test_names_left_behind_a_signpost(self):
        tree = made_folder(tree_with(("/a/b", "/s")), 257, "/a/b")
        tree = made_file(tree, 257, "/s/c")
        self.same(written(tree, 257, "/a/b/c", 0, (1,)), written(tree, 257, "/s/c", 0, (1,)))
        self.same(dropped(tree, "/s/c"), dropped(tree, "/a/b/c"))

    def test_what_is_to_be_made(self):
        tree = tree_with(("/a", "/s"), ("/no", "/t"))
        for call in (made_file, made_folder):
            self.refused(There, "/", call, tree, 257, "/")
            self.refused(There, "/a", call, tree, 257, "/a")
            self.refused(There, "/f", call, tree, 257, "/f")
            # A signpost that leads to nothing is there all the same.
            self.refused(There, "/t", call, tree, 257, "/t")
            self.refused(NoThing, "/t/x", call, tree, 257, "/t/x")
            self.refused(NoThing, "/no/x", call, tree, 257, "/no/x")
            self.refused(NotFolder, "/f/x", call, tree, 257, "/f/x")
            self.same(call(tree, 257, "/s/x"), call(tree, 257, "/a/x"))
        self.refused(There, "/", made_signpost, tree, 257, "/a", "/")
        self.refused(There, "/s", made_signpost, tree, 257, "/a", "/s")

    def test_errors_as_they_are_met(self):
        # The loop is met ahead of the name that is not there, and the other way round.
        tree = tree_with(("/c", "/c"), ("/no", "/t"))
        self.refused(Loop, "/c/no/x", cut_to, tree, 257, "/c/no/x", 0)
        self.refused(NoThing, "/no/c", cut_to, tree, 257, "/no/c", 0)
        self.refused(NoThing, "/t/c/c", cut_to, tree, 257, "/t/c/c", 0)
        self.refused(NotFolder, "/f/c", cut_to, tree, 257, "/f/c", 0)

    def test_the_very_path_that_was_handed_in(self):
        tree = tree_with(("/a", "/s"))
        self.refused(NoThing, "/s/s/x", cut_to, made_signpost(tree, 257, "/a", "/a/s"), 257, "/s/s/x", 0)
        self.refused(There, "/s/b", made_file, made_file(tree, 257, "/a/b"), 257, "/s/b")

    def test_the_path_that_is_handed_in_is_asked_first(self):
        tree = tree_with()
        for path in NO_PATHS[:12] + NO_TEXTS[:8]:
            with self.subTest(path=path):
                for call, others in (
                    (made_file, ()), (made_folder, ()), (cut_to, (None,)), (written, (None, None)), (limited, (True,)),
                    (linked, (None,)), (moved, (None,)), (made_signpost, (None,)),
                ):
                    self.refused(BadPath, path, call, tree, 257, path, *others)
                self.refused(BadPath, path, dropped, tree, path)
                self.refused(BadPath, path, linked, tree, 257, "/no/x", path)
                self.refused(BadPath, path, moved, tree, 257, "/no/x", path)
                self.refused(BadPath, path, made_signpost, tree, 257, "/a", path)


class Questions(Case):
    """Each question of a store asks the path, then what [57] says."""

    CALLS = (
        ("kind", ()), ("names", ()), ("size", ()), ("links", ()), ("read", (0, 0)), ("target", ()), ("used", ()), ("limit_of", ()),
    )

    def test_in_all_questions(self):
        store = empty(60)
        for deed in (("make_file", "/f"), ("signpost", "/c", "/c"), ("signpost", "/no", "/t")):
            do_deed(store, deed)
        for word, others in self.CALLS:
            call = getattr(store, word)
            for path in NO_PATHS[:12] + NO_TEXTS[:8]:
                self.refused(BadPath, path, call, path, *others)
            self.refused(NoThing, "/x", call, "/x", *others)
            self.refused(NotFolder, "/f/x", call, "/f/x", *others)
            self.refused(Loop, "/c/x", call, "/c/x", *others)
            if word != "target":
                self.refused(Loop, "/c", call, "/c", *others)
                self.refused(NoThing, "/t", call, "/t", *others)
        self.refused(NotSignpost, "/f", store.target, "/f")
        self.refused(NotSignpost, "/", store.target, "/")


if __name__ == "__main__":
    unittest.main()
