"""The files of the package keep to the subset of the language: what can be seen in the code."""

import ast
import builtins
import os
import re
import unittest

HERE = os.path.dirname(os.path.dirname(os.path.abspath(__file__)))
PACKAGE = os.path.join(HERE, "saidhere")
BUILTINS = set(
    "len range enumerate zip min max sum abs sorted reversed int str bool bytes list tuple dict set frozenset"
    " isinstance ord repr any all divmod pow getattr hasattr setattr iter next map super property staticmethod"
    " classmethod Exception ValueError TypeError KeyError IndexError LookupError ZeroDivisionError"
    " ArithmeticError OverflowError RuntimeError NotImplementedError AttributeError StopIteration"
    " NotImplemented".split()
)
METHODS = set(
    "append clear copy count endswith extend find get index insert isalnum isalpha isdigit islower isspace"
    " isupper items join keys ljust lower lstrip partition pop remove replace reverse rfind rjust rpartition"
    " rsplit rstrip setdefault split splitlines startswith strip update upper values zfill bit_length".split()
)
BARRED_NAMES = set("register mro elements open input law version_info with_traceback add_note".split())
BARRED_WORDS = (
    "type typing typing_extensions enum Enum IntEnum StrEnum Flag IntFlag Generic Protocol ABC ABCMeta"
    " namedtuple NamedTuple TypedDict TYPE_CHECKING abstractmethod"
).split()
DOUBLE = set(
    "init eq repr str len enter exit call iter lt le gt ge ne add sub mul floordiv mod pow and or xor lshift"
    " rshift neg pos invert abs bool contains getitem setitem".split()
)
NODES = (
    ast.Module, ast.FunctionDef, ast.ClassDef, ast.Return, ast.Delete, ast.Assign, ast.AugAssign, ast.For,
    ast.While, ast.If, ast.With, ast.Match, ast.Raise, ast.Try, ast.Assert, ast.ImportFrom, ast.Nonlocal,
    ast.Expr, ast.Pass, ast.Break, ast.Continue, ast.BoolOp, ast.BinOp, ast.UnaryOp, ast.Lambda, ast.IfExp,
    ast.Dict, ast.Set, ast.ListComp, ast.SetComp, ast.DictComp, ast.GeneratorExp, ast.Yield, ast.YieldFrom,
    ast.Compare, ast.Call, ast.FormattedValue, ast.JoinedStr, ast.Constant, ast.Attribute, ast.Subscript,
    ast.Starred, ast.Name, ast.List, ast.Tuple, ast.Slice, ast.expr_context, ast.boolop, ast.operator,
    ast.unaryop, ast.cmpop, ast.comprehension, ast.ExceptHandler, ast.arguments, ast.arg, ast.keyword,
    ast.alias, ast.withitem,
)
INTERFACE = {
    "plain": "is_alphabet is_row each_row",
    "tense": "tense_sheet heights pasts comings mirrored_sheet",
    "named": "named_sheet free_names names_used",
    "pairs": "Pair",
    "leastpair": "least parted_ahead parted_behind",
    "alike": "alike Likeness judge_alike",
    "layers": "Layer least_layer layer_of",
    "plainsets": "set_sheet cut_list",
    "meaning": "tense_marks named_holds named_marks cut_marks set_has",
    "tidying": "tidy_tense tidy_named tidy_set",
    "tensetext": "read_tense write_tense",
    "namedtext": "read_named write_named",
    "settext": "read_set write_set",
    "sayings": "saying",
    "books": "Book",
    "layerworks": "parted_layers drawn_back put_in",
    "booklines": "read_book write_book taken_up",
    "pairworks": "mirrored marked_rows",
    "turnings": "maps judge_steady is_steady turning Turn",
    "flags": "Reader",
    "tensein": "derive_tense",
    "tensejudge": "first_wrong_tense",
    "namedin": "derive_named",
    "namedjudge": "first_wrong_named",
    "setsin": "derive_sets",
    "setsjudge": "first_wrong_sets",
    "freepairs": "pair_of_reader pair_of_named pair_of_cuts",
    "sayingpairs": "pair_of pairs_of_book",
    "splitting": "split_of Split judge_split",
    "tenseout": "tense_of",
    "cutsout": "cuts_of",
    "namedout": "named_from_tense",
    "namedcuts": "named_from_cuts",
    "carrying": "carried",
    "always": "always Always judge_always follows is_let",
    "mosts": "most Most judge_ranks judge_pump",
    "merging": "merged idle",
    "rules": "sound Soundness rewritten",
    "delays": "delay reach windows endless_later endless_back judge_later judge_back",
    "spots": "Spot",
    "ways": "ways_on ways_back",
    "bearing": "bearing Bearing rows_behind",
    "undoing": "blurred undone",
    "missing": "onto Onto judge_onto",
    "glasses": "seen_alphabet seen_row coarsest",
    "through": "through Through sure perhaps",
    "joints": "joint Joint",
    "contests": "Contest judge_levels",
    "lows": "first_comings low Low",
    "census": "census shares fewest greatest",
    "ranked": "row_at number_of",
    "desks": "Desk",
}


def files():
    return sorted(name for name in os.listdir(PACKAGE) if name != "__pycache__")


def source(name):
    with open(os.path.join(PACKAGE, name), encoding="utf-8") as held:
        return held.read()


def trees():
    return {name: ast.parse(source(name)) for name in files()}


def bound(tree):
    """All names that a file binds, except attributes."""
    names = []
    for node in ast.walk(tree):
        if isinstance(node, ast.Name) and not isinstance(node.ctx, ast.Load):
            names.append(node.id)
        elif isinstance(node, ast.arg):
            names.append(node.arg)
        elif isinstance(node, (ast.FunctionDef, ast.ClassDef)):
            names.append(node.name)
        elif isinstance(node, ast.alias):
            names.append(node.asname or node.name)
        elif isinstance(node, ast.ExceptHandler) and node.name:
            names.append(node.name)
    return names


OPERATORS = DOUBLE - {"init", "enter", "exit", "call", "iter", "setitem"}
CHANGING = set("append clear extend insert pop remove reverse setdefault update sort add discard".split())


def definitions():
    """All functions of the package by their names; a class is called by its __init__."""
    found = {}
    for name, tree in trees().items():
        for node in ast.walk(tree):
            if isinstance(node, ast.FunctionDef):
                found.setdefault(node.name, []).append((name, node))
            if isinstance(node, ast.ClassDef):
                inits = [one for one in node.body if isinstance(one, ast.FunctionDef) and one.name == "__init__"]
                found.setdefault(node.name, []).extend((name, one) for one in inits)
    return found


def is_property(node):
    return any(isinstance(one, ast.Name) and one.id == "property" for one in node.decorator_list)


def run_by_operators():
    """The functions that operators, properties and the like run, directly or through others."""
    known = definitions()
    waiting = []
    for name, told in known.items():
        for file, node in told:
            if (name.startswith("__") and name[2:-2] in OPERATORS) or is_property(node):
                waiting.append((file, node))
    found = []
    while waiting:
        file, node = waiting.pop()
        if any(node is other for _, other in found):
            continue
        found.append((file, node))
        for call in ast.walk(node):
            if isinstance(call, ast.Call):
                name = call.func.id if isinstance(call.func, ast.Name) else getattr(call.func, "attr", "")
                if isinstance(call.func, ast.Attribute) and name in METHODS:
                    continue
                waiting += known.get(name, [])
    return found


def is_new(node):
    """Whether an expression surely makes a list or a dict."""
    if isinstance(node, (ast.List, ast.ListComp, ast.Dict, ast.DictComp)):
        return True
    if isinstance(node, ast.BinOp) and isinstance(node.op, ast.Add):
        return is_new(node.left) or is_new(node.right)
    return (
        isinstance(node, ast.Call) and isinstance(node.func, ast.Name) and node.func.id in ("list", "dict", "sorted")
    )


def has_new_items(node):
    """Whether an expression makes a list or a dict all items of which are written as new ones."""
    if isinstance(node, ast.ListComp):
        return is_new(node.elt) and not isinstance(node.elt, ast.BinOp)
    if isinstance(node, ast.List):
        return all(is_new(item) and not isinstance(item, ast.BinOp) for item in node.elts)
    return isinstance(node, ast.Dict) and not node.keys


def assigned(function):
    """What each local name is assigned in a function; None stands for anything."""
    found = {arg.arg: [None] for arg in ast.walk(function) if isinstance(arg, ast.arg)}
    for node in ast.walk(function):
        if isinstance(node, ast.Assign):
            for target in node.targets:
                if isinstance(target, ast.Name):
                    found.setdefault(target.id, []).append(node.value)
                elif isinstance(target, (ast.Tuple, ast.List)):
                    for one in ast.walk(target):
                        if isinstance(one, ast.Name):
                            found.setdefault(one.id, []).append(None)
        elif isinstance(node, (ast.For, ast.comprehension)):
            for one in ast.walk(node.target):
                if isinstance(one, ast.Name):
                    found.setdefault(one.id, []).append(None)
    return found


def changed(function):
    """What a function changes: the lists and dicts whose items are stored, deleted, or changed by a method."""
    for node in ast.walk(function):
        if isinstance(node, ast.Subscript) and not isinstance(node.ctx, ast.Load):
            yield node.value
        if isinstance(node, ast.Call) and isinstance(node.func, ast.Attribute) and node.func.attr in CHANGING:
            yield node.func.value


class WhatOperatorsRun(unittest.TestCase):
    def test_it_is_found(self):
        names = {node.name for _, node in run_by_operators()}
        for name in ("__and__", "__mul__", "__getitem__", "masks_of_triples", "feeders", "numbered", "check_row", "crossed"):
            self.assertIn(name, names)

    def test_only_what_is_surely_new_is_changed(self):
        for file, function in run_by_operators():
            held = assigned(function)
            for thing in changed(function):
                where = (file, function.name, thing.lineno)
                if isinstance(thing, ast.Name):
                    self.assertTrue(all(worth is not None and is_new(worth) for worth in held[thing.id]), where)
                else:
                    # An item of a list all of whose items are written as new ones.
                    self.assertIsInstance(thing, ast.Subscript, where)
                    self.assertIsInstance(thing.value, ast.Name, where)
                    worths = held[thing.value.id]
                    self.assertTrue(all(worth is not None and has_new_items(worth) for worth in worths), where)

    def test_sums_and_attributes(self):
        for file, function in run_by_operators():
            for node in ast.walk(function):
                where = (file, function.name, getattr(node, "lineno", 0))
                if isinstance(node, ast.AugAssign):
                    self.assertIsInstance(node.target, ast.Name, where)
                    self.assertIsInstance(node.op, (ast.Add, ast.Sub), where)
                    self.assertIsInstance(node.value, ast.Constant, where)
                    self.assertIsInstance(node.value.value, int, where)
                if isinstance(node, ast.Attribute) and not isinstance(node.ctx, ast.Load):
                    self.assertEqual(function.name, "__init__", where)
                    self.assertEqual(node.value.id, "self", where)

    def test_nothing_that_is_passed_is_called(self):
        for file, function in run_by_operators():
            held = assigned(function)
            for node in ast.walk(function):
                if isinstance(node, ast.Call) and isinstance(node.func, ast.Name) and node.func.id != "cls":
                    self.assertNotIn(node.func.id, held, (file, function.name, node.lineno))


ARITHMETIC = set("add sub mul floordiv mod pow and or xor lshift rshift".split())
COMPARING = set("eq ne lt le gt ge".split())


def done_when_left(tree):
    """The rows that are run when a block is left: of each `__exit__`, of what it calls of its own object, of `finally`."""
    found = []
    for node in ast.walk(tree):
        if isinstance(node, ast.Try):
            found.append(node.finalbody)
        for one in node.body if isinstance(node, ast.ClassDef) else []:
            if isinstance(one, ast.FunctionDef) and one.name == "__exit__":
                found.append(one.body)
                calls = [call.func.attr for call in ast.walk(one) if isinstance(call, ast.Call) and isinstance(call.func, ast.Attribute)]
                found += [other.body for other in node.body if getattr(other, "name", "") in calls]
    return [row for body in found for row in body]


def signs_when_left(tree, methods):
    """The rows on which, when a block is left, there is a sign that a method among these might be called for."""
    found = []
    for row in done_when_left(tree):
        for node in ast.walk(row):
            sign = getattr(node, "op", None)
            if methods & ARITHMETIC and isinstance(sign, (ast.Add, ast.Sub)):
                found.append(node.lineno)
            if methods & COMPARING and isinstance(node, ast.Compare):
                found.append(node.lineno)
            if "bool" in methods and isinstance(node, (ast.If, ast.IfExp, ast.BoolOp, ast.Not)):
                found.append(getattr(node, "lineno", row.lineno))
    return found


LEAVING = """
class Trial:
    def __exit__(self, kind, value, trace):
        net = self.net
        net.depth -= 1
        net.depth += 1
        net.depth = net.depth - 1
        net.rows = (net.rows + net.others,)
        if net.depth:
            net.depth = 0
        net.word = net.depth == 0
        self.shut()
    def shut(self):
        self.many -= 1
def other(box):
    try:
        box.many += 1
    finally:
        box.many -= 1
        box.many = box.many
    box.many -= 1
"""


class WhenABlockIsLeft(unittest.TestCase):
    def test_what_is_found(self):
        tree = ast.parse(LEAVING)
        self.assertEqual(sorted(signs_when_left(tree, {"mul"})), [5, 6, 7, 8, 14, 19])
        self.assertEqual(signs_when_left(tree, {"eq"}), [11])
        self.assertEqual(signs_when_left(tree, {"bool"}), [9])
        self.assertEqual(signs_when_left(tree, {"len", "call"}), [])

    def test_no_method_might_be_called_for_by_a_sign(self):
        methods = {name[2:-2] for name in definitions() if name.startswith("__")}
        for name in ("mul", "and", "eq", "bool"):
            self.assertIn(name, methods)
        for name, tree in trees().items():
            self.assertEqual(signs_when_left(tree, methods), [], name)

    def test_only_plain_rows(self):
        left = {name: done_when_left(tree) for name, tree in trees().items()}
        self.assertEqual([name for name in left if left[name]], ["desks.py"])
        for row in left["desks.py"]:
            self.assertIsInstance(row, ast.Assign, row.lineno)
            self.assertEqual(len(row.targets), 1, row.lineno)
            for side in (row.targets[0], row.value):
                # A name, or an attribute off a name.
                base = side.value if isinstance(side, ast.Attribute) else side
                self.assertIsInstance(base, ast.Name, row.lineno)

    def test_what_they_take(self):
        for name, tree in trees().items():
            for node in ast.walk(tree):
                if isinstance(node, ast.FunctionDef) and node.name == "__exit__":
                    self.assertEqual([arg.arg for arg in node.args.args], ["self", "kind", "value", "trace"])
                    read = {one.id for one in ast.walk(node) if isinstance(one, ast.Name)}
                    self.assertEqual(read & {"kind", "value", "trace"}, set(), name)


def called_by_name(node, names):
    return isinstance(node, ast.Call) and isinstance(node.func, ast.Name) and node.func.id in names


VIEWS = ("items", "keys", "values")
CHANGING_CALLS = ("heappush", "heappop", "heapify", "heapreplace", "heappushpop")


def held_by(node):
    """The names of what an expression may give without making it new: a name, a field, an item, a choice."""
    if isinstance(node, ast.Name):
        return [node.id]
    if isinstance(node, (ast.Attribute, ast.Subscript, ast.Starred)):
        return held_by(node.value)
    if isinstance(node, ast.IfExp):
        return held_by(node.body) + held_by(node.orelse)
    if isinstance(node, ast.BoolOp):
        return [name for worth in node.values for name in held_by(worth)]
    if isinstance(node, ast.NamedExpr):
        return held_by(node.target) + held_by(node.value)
    if called_by_name(node, ("enumerate", "zip", "reversed", "iter", "map")):
        return [name for arg in node.args for name in held_by(arg)]
    if isinstance(node, ast.Call) and isinstance(node.func, ast.Attribute):
        if node.func.attr in VIEWS + ("get", "setdefault", "pop"):
            return held_by(node.func.value)
    return []


def several_names(function):
    """For each name of a function, all names that plain assignments let stand for the same thing as it."""
    same = {}
    for node in ast.walk(function):
        if not isinstance(node, ast.Assign):
            continue
        sides = node.targets + [node.value]
        parts = [one for side in sides for one in (side.elts if isinstance(side, (ast.Tuple, ast.List)) else [side])]
        names = [name for part in parts for name in held_by(part)]
        group = set(names)
        for name in names:
            group |= same.get(name, {name})
        for name in group:
            same[name] = group
    return same


def changed_names(nodes):
    """The names of the lists and dicts that some statements change, also through their fields and items."""
    for top in nodes:
        for node in ast.walk(top):
            if isinstance(node, (ast.Subscript, ast.Attribute)) and not isinstance(node.ctx, ast.Load):
                yield from held_by(node.value)
            elif isinstance(node, ast.AugAssign):
                yield from held_by(node.target)
            elif isinstance(node, ast.Call) and isinstance(node.func, ast.Attribute) and node.func.attr in CHANGING:
                yield from held_by(node.func.value)
            elif called_by_name(node, CHANGING_CALLS):
                yield from held_by(node.args[0])


def loops(function):
    """Each loop and comprehension of a function: what it walks, and what it runs meanwhile."""
    for node in ast.walk(function):
        if isinstance(node, ast.For):
            yield node.iter, node.body
        elif isinstance(node, (ast.ListComp, ast.DictComp, ast.SetComp, ast.GeneratorExp)):
            for one in node.generators:
                yield one.iter, [node]


def walked_and_changed(function):
    """The lines at which a function may change what a loop walks, under whatever name."""
    same = several_names(function)
    for walked, body in loops(function):
        # Also what is named in the head of a loop only to find what is walked.
        names = set() if called_by_name(walked, ("list", "sorted")) else {
            node.id for node in ast.walk(walked) if isinstance(node, ast.Name)
        }
        for name in held_by(walked):
            names |= same.get(name, {name})
        if names & set(changed_names(body)):
            yield walked.lineno


class WhatLoopsWalk(unittest.TestCase):
    def lines(self, text):
        return list(walked_and_changed(ast.parse(text).body[0]))

    def test_what_is_found(self):
        heads = ("level", "list(level)", "enumerate(level)", "level[0]", "level.rows", "(level if x else y)", "zip(y, level)")
        for head in heads:
            for change in ("newer.append(a)", "newer[0] = a", "newer.rows.append(a)", "newer[1].pop()", "del newer[0]"):
                text = f"def told(x, y):\n  while x:\n    newer = []\n    for a in {head}:\n      {change}\n    level = newer"
                self.assertEqual(self.lines(text), [] if head == "list(level)" else [4], (head, change))
                self.assertEqual(self.lines(text.replace("= newer", "= list(newer)")), [])
                self.assertEqual(self.lines(text.replace("= newer", "= newer + []")), [])
                self.assertEqual(len(self.lines(text.replace("= newer", "= x or newer"))), head != "list(level)")
                self.assertEqual(len(self.lines(text.replace("level =", "level, y ="))), head != "list(level)")
                self.assertEqual(len(self.lines(text.replace("level = newer", "level, x = newer, y"))), head != "list(level)")
        self.assertEqual(self.lines("def told(x):\n  for a in x:\n    x.append(a)"), [2])
        self.assertEqual(self.lines("def told(x):\n  y = [x.pop() for a in x]"), [2])

    def test_nothing_that_a_loop_walks_is_changed_in_it(self):
        for name, tree in trees().items():
            for node in ast.walk(tree):
                if isinstance(node, ast.FunctionDef):
                    self.assertEqual(list(walked_and_changed(node)), [], (name, node.name))


class TheLanguage(unittest.TestCase):
    def each(self):
        for name, tree in trees().items():
            with self.subTest(file=name):
                yield name, tree

    def test_files(self):
        self.assertLessEqual(len(files()), 100)
        for name in files():
            self.assertRegex(name, r"^[a-z0-9_]+\.py$")
            stem = name[:-3]
            self.assertNotIn(stem, dir(builtins))
            self.assertNotRegex(stem, r"^(law_.*|test|tests|testing|test_.*|site|conftest)$")

    def test_size_and_characters(self):
        for name in files():
            text = source(name)
            lines = text.split("\n")
            self.assertLessEqual(len(lines) - 1, 399, name)
            self.assertLessEqual(max(map(len, lines)), 120, name)
            self.assertTrue(all(x == "\n" or " " <= x <= "~" for x in text), name)

    def test_length_of_functions(self):
        for name, tree in self.each():
            for node in ast.walk(tree):
                if isinstance(node, ast.FunctionDef):
                    self.assertLessEqual(node.end_lineno - node.lineno + 1, 40, (name, node.name))

    def test_only_allowed_nodes(self):
        for name, tree in self.each():
            for node in ast.walk(tree):
                self.assertIsInstance(node, NODES, (name, getattr(node, "lineno", 0)))
                if isinstance(node, (ast.BinOp, ast.AugAssign)):
                    self.assertNotIsInstance(node.op, (ast.Div, ast.MatMult), name)
                if isinstance(node, ast.Constant):
                    self.assertNotIsInstance(node.value, (float, complex), name)
                    self.assertIsNot(node.value, Ellipsis)

    def test_imports(self):
        needs = {}
        for name, tree in self.each():
            own = [node for node in tree.body if isinstance(node, ast.ImportFrom)]
            every = [node for node in ast.walk(tree) if isinstance(node, (ast.ImportFrom, ast.Import))]
            self.assertEqual(len(own), len(every), name)
            needs[name] = []
            for node in own:
                self.assertEqual(node.level, 0)
                self.assertRegex(node.module, r"^saidhere\.[a-z]+$")
                file = node.module.split(".")[1] + ".py"
                needs[name].append(file)
                tree_there = ast.parse(source(file))
                there = [
                    target.id for top in tree_there.body if isinstance(top, ast.Assign) for target in top.targets
                ]
                there += [top.name for top in tree_there.body if hasattr(top, "name")]
                for alias in node.names:
                    self.assertIsNone(alias.asname)
                    self.assertIn(alias.name, there, (name, file))
        settled = []
        while len(settled) < len(needs):
            ready = [n for n in needs if n not in settled and all(x in settled for x in needs[n])]
            self.assertTrue(ready, "files import from each other")
            settled += ready

    def test_imports_are_used(self):
        for name, tree in self.each():
            used = {node.id for node in ast.walk(tree) if isinstance(node, ast.Name)}
            for node in tree.body:
                if isinstance(node, ast.ImportFrom):
                    for alias in node.names:
                        self.assertIn(alias.name, used, name)

    def test_module_level(self):
        for name, tree in self.each():
            tops = []
            for at, node in enumerate(tree.body):
                if at == 0:
                    self.assertTrue(ast.get_docstring(tree), name)
                    continue
                self.assertIsInstance(node, (ast.ImportFrom, ast.FunctionDef, ast.ClassDef, ast.Assign), name)
                if isinstance(node, ast.Assign):
                    self.assertEqual(len(node.targets), 1)
                    ast.literal_eval(node.value)
                    tops.append(node.targets[0].id)
                elif isinstance(node, ast.ImportFrom):
                    tops += [alias.name for alias in node.names]
                else:
                    tops.append(node.name)
            self.assertEqual(len(tops), len(set(tops)), name)
            classes = [node.name for node in tree.body if isinstance(node, ast.ClassDef)]
            imports = [a.name for node in tree.body if isinstance(node, ast.ImportFrom) for a in node.names]
            for function in ast.walk(tree):
                if isinstance(function, (ast.FunctionDef, ast.Lambda)):
                    inner = [arg.arg for arg in ast.walk(function) if isinstance(arg, ast.arg)]
                    inner += [
                        node.id for node in ast.walk(function)
                        if isinstance(node, ast.Name) and not isinstance(node.ctx, ast.Load)
                    ]
                    for word in inner:
                        self.assertNotIn(word, classes + imports, name)

    def test_names(self):
        for name, tree in self.each():
            for word in bound(tree):
                if re.match(r"^__[a-z]+__$", word):
                    self.assertIn(word[2:-2], DOUBLE, name)
                    continue
                self.assertRegex(word, r"^_?[A-Za-z][A-Za-z0-9_]*$|^_$", name)
                self.assertNotIn(word, BARRED_NAMES, name)
                self.assertNotIn(word, dir(builtins), name)
                self.assertNotRegex(word, r"^(_wall|_pe_|_dcw_|_enum_|_cm_|_twin_re_|_lay_|_law_|_stub_|_sre)")
            for node in ast.walk(tree):
                if isinstance(node, ast.Attribute):
                    self.assertNotIn(node.attr, BARRED_NAMES | {"format", "format_map", "args"}, name)
                    self.assertFalse(node.attr.startswith("__") and node.attr != "__init__", name)

    def test_builtins(self):
        for name, tree in self.each():
            own = set(bound(tree))
            for node in ast.walk(tree):
                if isinstance(node, ast.Name) and isinstance(node.ctx, ast.Load) and node.id not in own:
                    self.assertIn(node.id, BUILTINS, (name, node.lineno))

    def test_methods_of_builtin_values(self):
        own = set(METHODS)
        for _, tree in trees().items():
            own |= {node.name for node in ast.walk(tree) if isinstance(node, ast.FunctionDef)}
        for name, tree in self.each():
            for node in ast.walk(tree):
                if isinstance(node, ast.Call) and isinstance(node.func, ast.Attribute):
                    self.assertIn(node.func.attr, own, (name, node.lineno))
                    if node.func.attr in METHODS:
                        self.assertEqual(node.keywords, [], (name, node.lineno))

    def test_attributes_are_assigned(self):
        stored = set(METHODS)
        for _, tree in trees().items():
            for node in ast.walk(tree):
                if isinstance(node, ast.Attribute) and isinstance(node.ctx, ast.Store):
                    stored.add(node.attr)
                if isinstance(node, ast.FunctionDef):
                    stored.add(node.name)
        for name, tree in self.each():
            for node in ast.walk(tree):
                if isinstance(node, ast.Attribute) and node.attr != "setter":
                    self.assertIn(node.attr, stored, (name, node.lineno))

    def test_no_name_is_a_method_and_an_attribute(self):
        stored, methods, told = set(), set(), set()
        for _, tree in trees().items():
            for node in ast.walk(tree):
                if isinstance(node, ast.Attribute) and isinstance(node.ctx, ast.Store):
                    stored.add(node.attr)
                for one in node.body if isinstance(node, ast.ClassDef) else []:
                    if isinstance(one, ast.FunctionDef):
                        setter = any(isinstance(mark, ast.Attribute) for mark in one.decorator_list)
                        (told if is_property(one) or setter else methods).add(one.name)
        self.assertEqual(told & set("letters unsure known ended live mark_names log".split()), told)
        self.assertEqual((stored & methods, stored & told, methods & told), (set(), set(), set()))

    def test_names_of_attributes(self):
        barred = set(
            "items keys values pop update append clear extend insert remove reverse setdefault sort args encode decode"
            " hex fromhex format as_integer_ratio bit_count conjugate from_bytes is_integer to_bytes mro register".split()
        )
        allowed = set("count index title find get join lower upper split strip copy add".split())
        others = {name for kind in (str, int, list, dict, set, bytes, tuple) for name in dir(kind)} - allowed
        for name, tree in self.each():
            for node in ast.walk(tree):
                if isinstance(node, ast.Attribute) and isinstance(node.ctx, ast.Store):
                    self.assertNotIn(node.attr, barred | others, (name, node.lineno))
                for one in node.body if isinstance(node, ast.ClassDef) else []:
                    if isinstance(one, ast.FunctionDef) and not one.name.startswith("__"):
                        self.assertNotIn(one.name, others - METHODS, (name, one.lineno))

    def test_reversed_takes_what_is_surely_a_list(self):
        # A class of the package has items, so other things might be objects of it.
        good = ("list", "tuple", "sorted", "range")
        for name, tree in self.each():
            for node in ast.walk(tree):
                if called_by_name(node, ("reversed",)):
                    self.assertTrue(called_by_name(node.args[0], good), (name, node.lineno))

    def test_decorators(self):
        for name, tree in self.each():
            methods = [
                node for top in ast.walk(tree) if isinstance(top, ast.ClassDef) for node in top.body
            ]
            for node in ast.walk(tree):
                if isinstance(node, ast.ClassDef):
                    self.assertEqual(node.decorator_list, [])
                if isinstance(node, ast.FunctionDef) and node.decorator_list:
                    self.assertIn(node, methods, name)
                    self.assertEqual(len(node.decorator_list), 1)

    def test_generator_expressions_and_sets(self):
        # Classes of the package have == of their own, so these builtins take lists.
        whole = ("any", "all", "min", "max", "sum", "sorted")
        for name, tree in self.each():
            for node in ast.walk(tree):
                self.assertNotIsInstance(node, (ast.Set, ast.SetComp), name)
                if isinstance(node, ast.Call) and isinstance(node.func, ast.Name):
                    if node.func.id in whole:
                        for arg in node.args:
                            self.assertNotIsInstance(arg, ast.GeneratorExp, (name, node.lineno))
                    if node.func.id in ("sorted", "len"):
                        continue
                    for arg in node.args:
                        called = isinstance(arg, ast.Call) and isinstance(arg.func, ast.Name)
                        self.assertFalse(called and arg.func.id == "set", (name, node.lineno))

    def test_stars_in_calls(self):
        for name, tree in self.each():
            for node in ast.walk(tree):
                if isinstance(node, ast.Call):
                    for arg in node.args:
                        if isinstance(arg, ast.Starred):
                            self.assertIsInstance(arg.value, (ast.Name, ast.Attribute), (name, node.lineno))

    def test_lazy_calls_stand_where_they_are_iterated(self):
        lazy = ("zip", "enumerate", "reversed", "map")
        takers = ("list", "tuple", "dict", "sorted", "sum", "any", "all", "enumerate", "zip", "min", "max")
        for name, tree in self.each():
            good = []
            for node in ast.walk(tree):
                if isinstance(node, (ast.For, ast.comprehension)):
                    good.append(node.iter)
                if isinstance(node, ast.Call) and isinstance(node.func, ast.Name) and node.func.id in takers:
                    good += node.args[:1]
            for node in ast.walk(tree):
                if isinstance(node, ast.Call):
                    called = node.func.id if isinstance(node.func, ast.Name) else ""
                    view = isinstance(node.func, ast.Attribute) and node.func.attr in ("items", "keys", "values")
                    if called in lazy or view:
                        self.assertIn(node, good, (name, node.lineno))

    def test_strings_and_words(self):
        for name, tree in self.each():
            told = [
                node.body[0].value for node in ast.walk(tree)
                if isinstance(node, (ast.Module, ast.ClassDef, ast.FunctionDef)) and ast.get_docstring(node)
            ]
            for node in ast.walk(tree):
                if isinstance(node, ast.Constant) and isinstance(node.value, str):
                    self.assertNotIn("%", node.value, name)
                    self.assertNotIn("__", node.value, name)
                    if node not in told:
                        for word in BARRED_WORDS:
                            self.assertNotRegex(node.value, rf"\b{word}\b", name)
            text = source(name)
            for word in ("_wall", "_WallAttr", "dataclass", "overload", "contextmanager", "Meta", "(type)"):
                self.assertNotIn(word, text, name)

    def test_only_own_errors_are_caught(self):
        own = {node.name for node in ast.parse(source("errors.py")).body if isinstance(node, ast.ClassDef)}
        for name, tree in self.each():
            for node in ast.walk(tree):
                if isinstance(node, ast.Try):
                    self.assertEqual(node.finalbody, [], name)
                    for handler in node.handlers:
                        caught = handler.type.elts if isinstance(handler.type, ast.Tuple) else [handler.type]
                        for one in caught:
                            self.assertIn(one.id, own, (name, node.lineno))

    def test_no_state(self):
        for name, tree in self.each():
            for node in ast.walk(tree):
                self.assertNotIsInstance(node, ast.Global, name)
                if isinstance(node, ast.With):
                    self.assertEqual(name, "desks.py")
                if isinstance(node, ast.FunctionDef):
                    for default in node.args.defaults + node.args.kw_defaults:
                        ast.literal_eval(default)

    def test_errors_are_raised_on_the_spot(self):
        for name, tree in self.each():
            for node in ast.walk(tree):
                if isinstance(node, ast.Raise):
                    self.assertIsInstance(node.exc, ast.Call, (name, node.lineno))
                    self.assertEqual(node.exc.keywords, [], (name, node.lineno))

    def test_the_interface_is_defined_where_it_is_listed(self):
        for file, words in INTERFACE.items():
            tree = ast.parse(source(file + ".py"))
            defined = [node.name for node in tree.body if isinstance(node, (ast.FunctionDef, ast.ClassDef))]
            for word in words.split():
                self.assertIn(word, defined, file)

    def test_methods_stand_in_their_class(self):
        methods = {
            ("pairs", "Pair"): "__init__ __call__ __contains__ __and__ __or__ __invert__ __eq__ of_letters",
            ("alike", "Likeness"): "__bool__",
            ("layers", "Layer"): "__init__ __call__ __mul__ __eq__ mark_of same",
            ("books", "Book"): "__init__ __getitem__ __contains__ __iter__ __len__ __eq__",
            ("turnings", "Turn"): "__init__ shown",
            ("flags", "Reader"): "__init__ __call__ __eq__ __len__",
            ("splitting", "Split"): "__init__ __iter__ __len__",
            ("always", "Always"): "__init__ __bool__",
            ("mosts", "Most"): "__init__ __bool__",
            ("rules", "Soundness"): "__init__ __bool__",
            ("spots", "Spot"): "__init__ read end copy letters unsure known ended",
            ("missing", "Onto"): "__init__ __bool__",
            ("through", "Through"): "__init__ __bool__",
            ("joints", "Joint"): "__init__ __bool__",
            ("contests", "Contest"): "__init__ parting_height parting_sheet",
            ("desks", "Desk"): (
                "__init__ live mark_names log put take change become undo redo marks trial put_on take_off copy tried"
            ),
        }
        for (file, name), words in methods.items():
            tree = ast.parse(source(file + ".py"))
            body = [node for node in tree.body if getattr(node, "name", "") == name][0].body
            defined = [node.name for node in body if isinstance(node, ast.FunctionDef)]
            for word in words.split():
                self.assertIn(word, defined)


if __name__ == "__main__":
    unittest.main()
