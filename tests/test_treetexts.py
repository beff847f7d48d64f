"""Trees as texts [80], and back as deeds [81]."""

import unittest

from sumstand.errors import BadName, BadRow, NoSnapshot
from sumstand.treetexts import tree_of, tree_text
from tests.arrays import seen
from tests.helpers import Case, NO_NUMBERS, NO_TUPLES, nested
from tests.stores import Drawn, do_deed, empty, filled_store, model_of, told_by
from tests.treemodel import ModelRefused, order

DEEDS = (
    ("make_folder", "/a"), ("limit", "/a", 40), ("make_file", "/a/b"), ("write", "/a/b", 0, (7, 0, 1)), ("link", "/a/b", "/a/c"),
    ("signpost", "/x/y", "/a/d"), ("make_folder", "/e"), ("make_file", "/f"), ("link", "/a/b", "/g"),
)

TEXT = (
    "/a folder limit 40", "/a/b file 3: 7 0 1", "/a/c same /a/b", "/a/d signpost /x/y", "/e folder", "/f file 0:", "/g same /a/b",
)


def made_by(deeds, many=300, p=65521):
    return filled_store(many, *deeds, p=p)


def model_text(model):
    """The rows of a model's tree, told straight from the document's words."""
    rows, first = [], {}

    def go(path, node):
        if node.kind == "folder":
            tail = "" if node.limit is None else f" limit {node.limit}"
            if path or tail:
                rows.append(f"{path or '/'} folder{tail}")
            for name in sorted(node.entries, key=order):
                go(f"{path}/{name}", node.entries[name])
        elif node.kind == "signpost":
            rows.append(f"{path} signpost {node.text}")
        elif node.number in first:
            rows.append(f"{path} same {first[node.number]}")
        else:
            first[node.number] = path
            rows.append(f"{path} file {len(node.words)}:" + "".join(f" {word}" for word in node.words))

    go("", model.root)
    return tuple(rows)


class Told(Case):
    def test_each_form(self):
        store = made_by(DEEDS)
        before = seen(store.array)
        self.same(tree_text(store), TEXT)
        self.same(tree_text(store=store), TEXT)
        self.same(tree_text(store), tree_text(store))
        self.same(seen(store.array), before)

    def test_an_empty_store(self):
        self.same(tree_text(empty(20)), ())

    def test_the_topmost_folder_has_a_row_if_it_has_a_limit(self):
        for limit in (0, 1, 40):
            store = filled_store(40, ("limit", "/", limit), ("make_folder", "/a"), ("limit", "/a", 0))
            self.same(tree_text(store), (f"/ folder limit {limit}", "/a folder limit 0"))
        store.limit("/", None)
        self.same(tree_text(store), ("/a folder limit 0",))

    def test_snapshots(self):
        store = made_by(DEEDS + (("snap", "s"), ("drop", "/f"), ("cut", "/g", 1)))
        self.same(tree_text(store, "s"), TEXT)
        self.same(tree_text(of="s", store=store), TEXT)
        self.same(tree_text(store), TEXT[:1] + ("/a/b file 1: 7",) + TEXT[2:5] + TEXT[6:])
        self.same(tree_text(store, None), tree_text(store))
        for of in ("", "T", "a/b", "a" * 13, 0, True, False, (), ("s",), nested(50)):
            self.refused(BadName, of, tree_text, store, of)
        self.refused(NoSnapshot, "t", tree_text, store, "t")

    def test_the_order_of_rows(self):
        names = ("z", "b", "a", "aa", "0", "_", "-", "a-", "a0")
        deeds = [("make_folder", "/" + name) for name in names] + [("make_file", f"/{name}/x") for name in names]
        told = [row.split(" ")[0] for row in tree_text(made_by(deeds))]
        due = [path for name in ("a", "aa", "a0", "a-", "b", "z", "0", "_", "-") for path in ("/" + name, f"/{name}/x")]
        self.same(told, due)

    def test_the_first_name_is_the_first_in_the_order_of_the_rows(self):
        store = made_by((("make_file", "/z"), ("write", "/z", 0, (5,)), ("make_folder", "/b"), ("link", "/z", "/b/0"), ("link", "/z", "/a")))
        self.same(tree_text(store), ("/a file 1: 5", "/b folder", "/b/0 same /a", "/z same /a"))
        store.drop("/a")
        self.same(tree_text(store), ("/b folder", "/b/0 file 1: 5", "/z same /b/0"))

    def test_paths_of_more_than_20_names(self):
        deep = "/a" * 20
        deeds = [("make_folder", "/a" * many) for many in range(1, 21)] + [("make_folder", "/b"), ("make_file", "/b/f"), ("cut", "/b/f", 2)]
        store = made_by(deeds)
        store.signpost(deep, "/s")
        store.make_file("/s/g")
        store.move("/b", "/s/b")
        store.link("/s/g", "/h")
        due = tuple("/a" * many + " folder" for many in range(1, 21))
        due += (deep + "/b folder", deep + "/b/f file 2: 0 0", deep + "/g file 0:", f"/h same {deep}/g", f"/s signpost {deep}")
        self.same(tree_text(store), due)
        # Such rows are told, but not read: the path is none.
        self.refused(BadRow, 20, tree_of, due)
        self.refused(BadRow, 0, tree_of, due[22:])

    def test_beside_the_model(self):
        for seed in range(5):
            drawn = Drawn(seed)
            store = empty(120)
            model = model_of(store)
            for _ in range(150):
                deed = drawn.deed(model.root)
                try:
                    model.do(deed)
                    do_deed(store, deed)
                except ModelRefused:
                    pass
            self.same(tree_text(store), model_text(model))


class Back(Case):
    def test_each_form(self):
        due = (
            ("make_folder", "/a"), ("limit", "/a", 40), ("make_file", "/a/b"), ("write", "/a/b", 0, (7, 0, 1)), ("link", "/a/b", "/a/c"),
            ("signpost", "/x/y", "/a/d"), ("make_folder", "/e"), ("make_file", "/f"), ("link", "/a/b", "/g"),
        )
        self.same(tree_of(TEXT), due)
        self.same(tree_of(rows=TEXT), due)
        self.same(tree_text(made_by(tree_of(TEXT))), TEXT)

    def test_no_rows(self):
        self.same(tree_of(()), ())

    def test_the_topmost_folder(self):
        self.same(tree_of(("/ folder limit 40", "/a file 0:")), (("limit", "/", 40), ("make_file", "/a")))
        self.same(tree_of(("/ folder limit 0",)), (("limit", "/", 0),))
        for row in ("/ folder", "/ folder limit", "/ file 0:", "/ signpost /a", "/ same /a", "/ folder limit 40 ", "/ folder limit none", "/"):
            self.refused(BadRow, 0, tree_of, (row,))
        self.refused(BadRow, 1, tree_of, ("/ folder limit 4", "/ folder limit 5"))
        self.refused(BadRow, 1, tree_of, ("/a folder", "/ folder limit 5"))

    def test_what_is_no_tuple_and_no_text(self):
        for rows in NO_TUPLES + (list(TEXT), {}):
            self.refused(BadRow, -1, tree_of, rows)
        for row in NO_NUMBERS + (0, 10**999, b"/a folder", ["/a", "folder"], ("/a", "folder")):
            self.refused(BadRow, 0, tree_of, (row,))
            self.refused(BadRow, 7, tree_of, TEXT + (row,))
            self.refused(BadRow, 3, tree_of, TEXT[:3] + (row, None))

    def test_rows_that_have_no_form(self):
        for row in (
            "", " ", "/b", "/b ", " /b folder", "/b folder ", "/b  folder", "/b\tfolder", "/b folder\n", "/b Folder", "/b folders",
            "b folder", "/B folder", "/b/ folder", "//b folder", "folder /b", "/b folder limit", "/b folder limit ", "/b folder limit none",
            "/b folder limit 01", "/b folder limit 00", "/b folder limit -1", "/b folder limit +1", "/b folder limit 65521",
            "/b folder limit 100000", "/b folder limit 1 2", "/b folder limit 1 limit 2", "/b folder  limit 1", "/b folder limit  1",
            "/b folder 4", "/b limit 4", "/b file", "/b file 0", "/b file :", "/b file 0: ", "/b file 0:0", "/b file 0 :", "/b file 1:",
            "/b file 1: ", "/b file 0: 5", "/b file 1:  5", "/b file 1: 5 ", "/b file 2: 5", "/b file 1: 5 6", "/b file 1: 05",
            "/b file 01: 5", "/b file 1: -5", "/b file 1: 65521", "/b file 1: x", "/b file 1: 5,", "/b file 3:7 0 1", "/b file 00:",
            "/b file 1: \u0665", "/b file \u0661: 5", "/b file 1: \u00b2", "/b file 1:: 5", "/b file  0:", "/b same", "/b same ", "/b same a",
            "/b same /b", "/b same /no", "/b same /", "/b same /f /f", "/b  same /f", "/b signpost", "/b signpost ", "/b signpost a",
            "/b signpost /A", "/b signpost /a/", "/b signpost /a /b", "/b signpost /" + "a" * 13, "/b signpost" + " /a" * 21,
            "/b signpost " + "/a" * 21, "/" + "b" * 13 + " folder", "/b" * 21 + " folder", "/b file 1: 1" + "0" * 900,
        ):
            with self.subTest(row=row):
                self.refused(BadRow, 0, tree_of, (row,))
                self.refused(BadRow, 2, tree_of, ("/a folder", "/a/f file 0:", row, None))
                self.refused(BadRow, 1, tree_of, ("/a file 0:", row))

    def test_rows_that_have_a_form_at_its_edge(self):
        for row, due in (
            ("/b folder limit 65520", [("make_folder", "/b"), ("limit", "/b", 65520)]),
            ("/b folder limit 0", [("make_folder", "/b"), ("limit", "/b", 0)]), ("/b file 0:", [("make_file", "/b")]),
            ("/b file 1: 65520", [("make_file", "/b"), ("write", "/b", 0, (65520,))]),
            ("/b file 1: 0", [("make_file", "/b"), ("write", "/b", 0, (0,))]), ("/b signpost /", [("signpost", "/", "/b")]),
            ("/b signpost /b", [("signpost", "/b", "/b")]), ("/b signpost " + "/a" * 20, [("signpost", "/a" * 20, "/b")]),
            ("/" + "b" * 12 + " folder", [("make_folder", "/" + "b" * 12)]),
            ("/b file 10:" + " 9" * 10, [("make_file", "/b"), ("write", "/b", 0, (9,) * 10)]),
        ):
            self.same(tree_of((row,)), tuple(due))

    def test_paths_have_to_rise(self):
        for first, second, right in (
            ("/a", "/b", True), ("/b", "/a", False), ("/a", "/a", False), ("/a", "/aa", True), ("/aa", "/a", False),
            ("/z", "/0", True), ("/0", "/z", False), ("/_", "/-", True), ("/-", "/_", False), ("/a-", "/b", True), ("/9", "/_", True),
        ):
            rows = (first + " folder", second + " file 0:")
            if right:
                self.same(tree_of(rows), (("make_folder", first), ("make_file", second)))
            else:
                self.refused(BadRow, 1, tree_of, rows)
        # Compared name by name: what is in "a" comes ahead of "a-", "-" being greater than "/".
        self.same(len(tree_of(("/a folder", "/a/z file 0:", "/a- file 0:"))), 3)
        self.refused(BadRow, 2, tree_of, ("/a folder", "/a- folder", "/a/z file 0:"))
        self.same(len(tree_of(("/a folder", "/a/z file 0:", "/aa file 0:"))), 3)
        self.refused(BadRow, 3, tree_of, ("/a folder", "/a/b folder", "/a/c folder", "/a/b/d file 0:"))
        self.refused(BadRow, 2, tree_of, ("/a folder", "/a/b folder", "/a file 0:"))

    def test_the_folder_was_told(self):
        for row in ("/a/b folder", "/a/b file 0:", "/a/b signpost /", "/a/b folder limit 4"):
            self.refused(BadRow, 0, tree_of, (row,))
            self.refused(BadRow, 1, tree_of, ("/a file 0:", row))
            self.refused(BadRow, 1, tree_of, ("/a signpost /", row))
            self.refused(BadRow, 1, tree_of, ("/ folder limit 5", row))
            self.same(len(tree_of(("/ folder limit 5", "/a folder", row))), 3 + row.endswith("4"))
        self.refused(BadRow, 2, tree_of, ("/a file 0:", "/b same /a", "/b/c folder"))
        self.refused(BadRow, 1, tree_of, ("/a folder", "/a/b/c folder"))

    def test_behind_same_stands_the_first_name(self):
        rows = ("/a file 1: 5", "/b folder", "/b/c same /a", "/s signpost /a")
        for other, right in (("/a", True), ("/b/c", False), ("/b", False), ("/s", False), ("/z", False), ("/", False), ("/0", False)):
            if right:
                self.same(tree_of(rows + (f"/z same {other}",))[-1], ("link", other, "/z"))
            else:
                self.refused(BadRow, 4, tree_of, rows + (f"/z same {other}",))

    def test_what_the_deeds_raise_is_not_asked(self):
        self.same(tree_of(("/ folder limit 0", "/a file 1: 5")), (("limit", "/", 0), ("make_file", "/a"), ("write", "/a", 0, (5,))))
        self.same(tree_of(("/a folder limit 65520",))[1], ("limit", "/a", 65520))

    def test_the_first_wrong_row(self):
        self.refused(BadRow, 1, tree_of, ("/a folder", "/a folder", "", None))
        self.refused(BadRow, 0, tree_of, ("", "/a folder", ""))

    def test_there_and_back(self):
        """Where these deeds are let, and no path has more than 20 names, the same rows are told again."""
        back = 0
        for seed in range(12):
            drawn = Drawn(seed, 65521)
            store = empty(300, 65521)
            model = model_of(store)
            for _ in range(60):
                deed = drawn.deed(model.root)
                try:
                    model.do(deed)
                    do_deed(store, deed)
                except ModelRefused:
                    pass
            rows = tree_text(store)
            deeds = tree_of(rows)
            self.same(tree_of(rows), deeds)
            again = empty(300, 65521)
            for deed in deeds:
                do_deed(again, deed)
            self.same(tree_text(again), rows)
            self.same(tree_of(tree_text(again)), deeds)
            self.same(told_by(again)[1], ())
            back += len(deeds)
        self.assertGreater(back, 60)


if __name__ == "__main__":
    unittest.main()
