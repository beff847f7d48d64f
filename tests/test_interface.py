"""The interface: names, arguments under their names, and the files where they are defined."""

import importlib
import inspect
import unittest

from tests.arrays import filled, with_data
from tests.helpers import Case, ROW_SHAPE, SHAPE
from tests.stores import bare, filled_store

FUNCTIONS = {
    "shapes": {"made_shape": "thing", "column": "shape x kept"},
    "stripes": {
        "made_data": "shape data",
        "made_left": "shape left",
        "sums": "shape data",
        "stripe": "shape data",
        "lost_of": "left",
    },
    "fields": {
        "is_prime": "p",
        "inverse": "a p",
        "combined": "row factor other p",
        "left_null": "matrix many p",
        "left_inverse": "matrix many p",
        "solved": "matrix many right p",
    },
    "traces": {"trace": "shape lost x mask"},
    "stories": {
        "made_story": "shape story",
        "ends": "story",
        "at_rest": "story",
        "left_by": "shape story lost",
        "clash": "shape lost one two",
    },
    "readings": {"edges": "shape left", "told": "shape left"},
    "judge": {
        "safe": "shape lost",
        "stands": "shape",
        "clash_in": "shape lost",
        "first_clash": "shape",
    },
    "papers": {"stand_paper": "shape", "paper_right": "shape paper"},
    "orders": {"order_clash": "shape orders"},
    "finder": {"table_at": "p n c number", "finder": "p n c e first many"},
    "shelves": {"told_data": "array row", "is_whole": "array row"},
    "batches": {
        "made_code": "array code",
        "do": "array code",
        "stopped": "array code many came",
        "deed": "array row x cell",
    },
    "mending": {"mend_row": "array row", "ask": "array row"},
    "celltexts": {"array_text": "array", "read_array": "texts"},
    "scrub": {"looks": "array", "scrub": "array"},
    "filling": {"fill": "array", "trust": "array"},
    "growth": {"blank": "array", "join": "array", "leave": "array", "sum_less": "array"},
    "spots": {"clean": "shape", "spots": "array"},
    "signs": {"is_name": "thing", "numbers_of": "text", "text_of": "numbers"},
    "contents": {"least_depth": "wide size"},
    "things": {"entry_words": "entries", "entries_in": "words"},
    "making": {"content_cells": "wide words", "content_need": "wide old new"},
    "reaching": {"reached": "look wide"},
    "paths": {"is_path": "value"},
    "filedeeds": {
        "made_file": "tree prime path",
        "written": "tree prime path at words",
        "cut_to": "tree prime path size",
    },
    "folderdeeds": {
        "made_folder": "tree prime path",
        "made_signpost": "tree prime text path",
        "dropped": "tree path",
        "limited": "tree prime path words",
    },
    "linkdeeds": {"linked": "tree prime path new", "moved": "tree prime path new"},
    "planning": {"planned": "store deed"},
    "filestore": {"lay_store": "array", "open_store": "array"},
    "looker": {"first_fault": "look many"},
    "treetexts": {"tree_text": "store of", "tree_of": "rows"},
}

# Of each class the arguments that its methods take.
CLASSES = {
    "shelves": {
        "Array": {
            "__init__": "self shape rows",
            "state": "self shelf",
            "cell": "self row shelf",
            "left": "self row",
            "lose": "self shelf",
            "replace": "self shelf cells",
            "new": "self column cells",
            "sum_more": "self numbers cells",
        },
    },
    "cellstore": {
        "Cells": {"__init__": "self array", "size": "self", "look": "self a", "drive": "self writes"},
    },
    "filestore": {
        "Store": {
            "look": "self address",
            "many": "self",
            "code": "self deed",
            "make_file": "self path",
            "make_folder": "self path",
            "signpost": "self text path",
            "write": "self path at words",
            "cut": "self path size",
            "drop": "self path",
            "link": "self path new",
            "move": "self path new",
            "limit": "self path words",
            "snap": "self name",
            "forget": "self name",
            "back": "self name",
            "forget_all": "self",
            "tree": "self of",
            "kind": "self path of",
            "names": "self path of",
            "size": "self path of",
            "links": "self path of",
            "read": "self path at many of",
            "target": "self path of",
            "used": "self path of",
            "limit_of": "self path of",
            "snapshots": "self",
            "free": "self",
            "needed": "self deed",
            "row": "self text",
        },
    },
}

# The methods of a store that may be asked of a snapshot.
OF = ("tree", "kind", "names", "size", "links", "read", "target", "used", "limit_of")

DATA = ((3,), (5,))
POWERS = ((1,), (2,), (4,))
STORY = (DATA, 0, (4,), (1, 3))
OTHER = (((4,), (0,)), 0, (3,), ())
EDGE = (((3,), (5,)), ((4,), (5,)))
LEFT = ((1,), (0,), (2,), (4,), None)
COPY = (5, 1, 1, ((2,),), 1)
PAPER = (((1,), (), ((3,),)),)
BARE = (7, 1, 3, (), 1)
ARRAY = with_data(COPY, [((1,),), ((3,),)])
TEXTS = ("shape 5 1 1 1 2", "sum 2", "shelf 0 kept 2 1", "shelf 1 kept 1 3")
CODE = (((0, 1, (1,)), (1, 1, (3,))),)
GROWN = with_data((5, 1, 1, (), 0), [((1,),)])
GROWN.new((), ((2,),))
TORN = filled((5, 1, 1, ((1,), (1,), (1,)), 1), [((1,), (1,), (2,), (1,))])
EMPTY_TREE = (None, (2, (), None))
TREE = (None, (2, (("a", 2),), None), (1, (7, 8), None))
STORE = filled_store(40, ("make_file", "/a"), ("write", "/a", 0, (7, 8)), ("snap", "s"))
BARE_CLASH = ((0,), (((0,),) * 3, 0, (0,), ()), (((1,), (0,), (0,)), 0, (1,), ()))

# Of each function a call with all arguments by name, and what it returns.
CALLS = (
    ("shapes", "made_shape", {"thing": SHAPE}, SHAPE),
    ("shapes", "column", {"kept": (0, 2), "x": 1, "shape": ROW_SHAPE}, (1, 3)),
    ("stripes", "made_data", {"data": DATA, "shape": SHAPE}, DATA),
    ("stripes", "made_left", {"left": (None,) * 5, "shape": SHAPE}, (None,) * 5),
    ("stripes", "sums", {"data": DATA, "shape": ROW_SHAPE}, ((1,), (6,), (4,))),
    ("stripes", "stripe", {"data": DATA, "shape": ROW_SHAPE}, ((1,), (6,), (4,), (3,), (5,))),
    ("stripes", "lost_of", {"left": (None, (1,), None)}, (0, 2)),
    ("fields", "is_prime", {"p": 7}, True),
    ("fields", "inverse", {"p": 7, "a": 3}, 5),
    ("fields", "combined", {"p": 7, "other": (1, 2), "factor": 3, "row": (5, 6)}, (1, 5)),
    ("fields", "left_null", {"p": 7, "many": 1, "matrix": POWERS}, ((1, 0, 5), (0, 1, 3))),
    ("fields", "left_inverse", {"p": 7, "many": 1, "matrix": POWERS}, ((1, 0, 0),)),
    ("fields", "solved", {"p": 7, "right": (5, 3, 6), "many": 1, "matrix": POWERS}, (5,)),
    ("traces", "trace", {"mask": (0, 2), "x": 1, "lost": (1,), "shape": SHAPE}, (1, 4)),
    ("stories", "made_story", {"story": STORY, "shape": SHAPE}, STORY),
    ("stories", "ends", {"story": STORY}, EDGE),
    ("stories", "at_rest", {"story": STORY}, False),
    ("stories", "left_by", {"lost": (4,), "story": STORY, "shape": SHAPE}, LEFT),
    ("stories", "clash", {"two": OTHER, "one": STORY, "lost": (0, 1, 2, 3, 4), "shape": SHAPE}, True),
    ("readings", "edges", {"left": LEFT, "shape": SHAPE}, (EDGE,)),
    ("readings", "told", {"left": LEFT, "shape": SHAPE}, DATA),
    ("judge", "safe", {"lost": (3, 4), "shape": SHAPE}, False),
    ("judge", "stands", {"shape": SHAPE}, True),
    ("judge", "clash_in", {"lost": (3,), "shape": SHAPE}, None),
    ("judge", "first_clash", {"shape": SHAPE}, None),
    ("papers", "stand_paper", {"shape": COPY}, PAPER),
    ("papers", "paper_right", {"paper": PAPER, "shape": COPY}, True),
    ("orders", "order_clash", {"orders": ((0,), (1,), (2,)), "shape": BARE}, BARE_CLASH),
    ("finder", "table_at", {"number": 0, "c": 3, "n": 2, "p": 7}, ((6, 6), (3, 2), (3, 6))),
    ("finder", "finder", {"many": 1, "first": 0, "e": 0, "c": 3, "n": 2, "p": 7}, (0, ((6, 6), (3, 2), (3, 6)))),
    ("shelves", "told_data", {"row": 1, "array": ARRAY}, ((3,),)),
    ("shelves", "is_whole", {"row": 1, "array": ARRAY}, True),
    ("batches", "made_code", {"code": CODE, "array": ARRAY}, CODE),
    ("batches", "do", {"code": CODE, "array": ARRAY}, None),
    ("batches", "stopped", {"came": (1,), "many": 0, "code": CODE, "array": ARRAY}, None),
    ("batches", "deed", {"cell": (3,), "x": 0, "row": 0, "array": ARRAY}, (((0, 0, (1,)), (1, 0, (3,))),)),
    ("mending", "mend_row", {"row": 0, "array": ARRAY}, ()),
    ("mending", "ask", {"row": 0, "array": ARRAY}, ((), ((1,),))),
    ("celltexts", "array_text", {"array": ARRAY}, TEXTS),
    ("scrub", "looks", {"array": ARRAY}, ("whole", "whole")),
    ("scrub", "scrub", {"array": TORN}, (((2, 0, (1,)),),)),
    ("filling", "fill", {"array": TORN}, (((2, 0, (1,)),),)),
    ("filling", "trust", {"array": ARRAY}, None),
    ("growth", "blank", {"array": GROWN}, (((1, 0, (0,)),),)),
    ("spots", "clean", {"shape": ROW_SHAPE}, True),
    ("spots", "spots", {"array": TORN}, ((0, 2),)),
    ("signs", "is_name", {"thing": "a_0"}, True),
    ("signs", "numbers_of", {"text": "/a"}, (38, 0)),
    ("signs", "text_of", {"numbers": (38, 0)}, "/a"),
    ("contents", "least_depth", {"size": 8, "wide": 8}, 2),
    ("things", "entry_words", {"entries": (("a", 2), ("b_", 3))}, (1, 0, 2, 2, 1, 36, 3)),
    ("things", "entries_in", {"words": (1, 0, 2, 2, 1, 36, 3)}, (("a", 2), ("b_", 3))),
    ("making", "content_cells", {"words": (0,) * 7 + (5,), "wide": 8}, 2),
    ("making", "content_need", {"new": (5, 6), "old": (5,), "wide": 8}, 1),
    ("paths", "is_path", {"value": "/a/b2"}, True),
    ("filedeeds", "made_file", {"path": "/a", "prime": 257, "tree": EMPTY_TREE}, TREE[:2] + ((1, (), None),)),
    ("filedeeds", "written", {"words": (5,), "at": 4, "path": "/a", "prime": 257, "tree": TREE}, TREE[:2] + ((1, (7, 8, 0, 0, 5), None),)),
    ("filedeeds", "cut_to", {"size": 1, "path": "/a", "prime": 257, "tree": TREE}, TREE[:2] + ((1, (7,), None),)),
    ("folderdeeds", "made_folder", {"path": "/a", "prime": 257, "tree": EMPTY_TREE}, TREE[:2] + ((2, (), None),)),
    ("folderdeeds", "made_signpost", {"path": "/a", "text": "/b", "prime": 257, "tree": EMPTY_TREE}, TREE[:2] + ((3, "/b", None),)),
    ("folderdeeds", "dropped", {"path": "/a", "tree": TREE}, EMPTY_TREE),
    ("folderdeeds", "limited", {"words": 2, "path": "/", "prime": 257, "tree": TREE}, (None, (2, (("a", 2),), 2), TREE[2])),
    ("linkdeeds", "linked", {"new": "/b", "path": "/a", "prime": 257, "tree": TREE}, (None, (2, (("a", 2), ("b", 2)), None), TREE[2])),
    ("linkdeeds", "moved", {"new": "/b", "path": "/a", "prime": 257, "tree": TREE}, (None, (2, (("b", 2),), None), TREE[2])),
    ("planning", "planned", {"deed": ("write", "/a", 0, (7,)), "store": STORE}, ()),
    ("looker", "first_fault", {"many": 40, "look": STORE.look}, None),
    ("treetexts", "tree_text", {"of": "s", "store": STORE}, ("/a file 2: 7 8",)),
    ("treetexts", "tree_of", {"rows": ("/a file 2: 7 8",)}, (("make_file", "/a"), ("write", "/a", 0, (7, 8)))),
)


def found(module, name):
    return getattr(importlib.import_module(f"sumstand.{module}"), name)


class Interface(Case):
    def test_functions_are_defined_where_they_are_listed(self):
        for module, functions in FUNCTIONS.items():
            for name in functions:
                with self.subTest(module=module, name=name):
                    self.assertTrue(inspect.isfunction(found(module, name)))
                    self.assertEqual(found(module, name).__module__, f"sumstand.{module}")
                    self.assertEqual(found(module, name).__name__, name)

    def test_arguments_have_their_names(self):
        for module, functions in FUNCTIONS.items():
            for name, arguments in functions.items():
                with self.subTest(module=module, name=name):
                    self.assertEqual(list(inspect.signature(found(module, name)).parameters), arguments.split())

    def test_arguments_are_given_by_name(self):
        for module, name, arguments, wanted in CALLS:
            with self.subTest(module=module, name=name):
                self.same(found(module, name)(**arguments), wanted)

    def test_arguments_are_given_by_position(self):
        for module, name, arguments, wanted in CALLS:
            with self.subTest(module=module, name=name):
                given = [arguments[word] for word in FUNCTIONS[module][name].split()]
                self.same(found(module, name)(*given), wanted)

    def test_equal_calls_return_equal_values_and_change_nothing(self):
        for module, name, arguments, _ in CALLS:
            with self.subTest(module=module, name=name):
                before = repr(arguments)
                first = found(module, name)(**arguments)
                self.same(found(module, name)(**arguments), first)
                self.assertEqual(repr(arguments), before)

    def test_classes_are_defined_where_they_are_listed(self):
        for module, classes in CLASSES.items():
            for name, methods in classes.items():
                made = found(module, name)
                self.assertTrue(inspect.isclass(made))
                self.assertEqual((made.__module__, made.__name__), (f"sumstand.{module}", name))
                for method, arguments in methods.items():
                    with self.subTest(module=module, name=name, method=method):
                        self.assertTrue(inspect.isfunction(vars(made)[method]))
                        self.assertEqual(list(inspect.signature(vars(made)[method]).parameters), arguments.split())

    def test_an_array_is_read(self):
        self.same(found("celltexts", "array_text")(found("celltexts", "read_array")(texts=TEXTS)), TEXTS)

    def test_an_array_grows_and_leaves_again(self):
        for named in (False, True):
            array = with_data((7, 1, 1, ((1,), (1,)), 1), [((0,),)])
            for name in ("sum_less", "join", "leave"):
                if name == "join":
                    array.new((3,), ((0,),))
                call = found("growth", name)
                self.same(call(array=array) if named else call(array), None)
            self.same(found("celltexts", "array_text")(array), ("shape 7 1 1 0 1", "sum 1", "shelf 0 kept 0", "shelf 1 kept 0"))

    def test_a_store_is_laid_and_opened(self):
        lay, opened = found("filestore", "lay_store"), found("filestore", "open_store")
        for store in (lay(bare(20)), lay(array=bare(20)), opened(lay(bare(20)).array), opened(array=lay(bare(20)).array)):
            self.assertIs(store.__class__, found("filestore", "Store"))
            self.same(found("reaching", "reached")(store.look, 8), (0, 1, 2))
            self.same(found("reaching", "reached")(wide=8, look=store.look), (0, 1, 2))
            self.same(sorted(name for name in vars(store) if not name.startswith("_")), ["array", "cells", "prime", "wide"])

    def test_arguments_that_may_be_left_out(self):
        for call in [found("treetexts", "tree_text")] + [vars(found("filestore", "Store"))[name] for name in OF]:
            parameters = list(inspect.signature(call).parameters.values())
            self.assertEqual([(each.name, each.default) for each in parameters if each.default is not each.empty], [("of", None)])

    def test_each_listed_function_is_called(self):
        # Those whose answers have no text of their own, or that do not do the same twice, are called above.
        others = [("celltexts", "read_array"), ("growth", "join"), ("growth", "leave"), ("growth", "sum_less")]
        others += [("filestore", "lay_store"), ("filestore", "open_store"), ("reaching", "reached")]
        called = sorted([(module, name) for module, name, _, _ in CALLS] + others)
        listed = sorted((module, name) for module, names in FUNCTIONS.items() for name in names)
        self.assertEqual(called, listed)


if __name__ == "__main__":
    unittest.main()
