"""The form of the code: what a reader may rely on in every file of the package."""

import ast
import builtins
import os
import re
import unittest

HERE = os.path.dirname(os.path.abspath(__file__))
PACKAGE = os.path.join(os.path.dirname(HERE), "dimkeeper")

BUILTINS = set("""len range enumerate zip min max sum abs sorted reversed int str bool list tuple dict set
isinstance ord repr any all divmod iter super property staticmethod classmethod ValueError KeyError""".split())
METHODS = set("""append clear copy count endswith extend find get index insert isalnum isalpha isdigit islower isspace
isupper items join keys ljust lower lstrip partition pop remove replace reverse rfind rjust rpartition rsplit rstrip
setdefault split splitlines startswith strip update upper values zfill bit_length add discard""".split())
SPECIAL = set("__init__ __eq__ __str__ __len__ __iter__ __contains__ __bool__".split())
WORDS = ["type", "typing", "enum", "Enum", "Flag", "Generic", "Protocol", "ABC", "namedtuple", "NamedTuple",
         "abstractmethod"]
NAMES = ["register", "mro", "elements", "open", "input", "law", "copyright", "credits", "dir", "eval", "exec", "exit",
         "gc", "getattr", "globals", "hasattr", "help", "id", "license", "locals", "os", "quit", "setattr", "type",
         "vars", "sys", "_wall"]


def sources():
    found = {}
    for name in sorted(os.listdir(PACKAGE)):
        if name.endswith(".py"):
            with open(os.path.join(PACKAGE, name), encoding="utf-8") as file:
                found[name] = file.read()
    return found


SOURCES = sources()
TREES = {name: ast.parse(text) for name, text in SOURCES.items()}


def bound_names(function):
    """Parameters and local variables of a function, and the functions nested in it."""
    names = [arg.arg for node in ast.walk(function) if isinstance(node, ast.arguments)
             for arg in node.posonlyargs + node.args + node.kwonlyargs + [node.vararg, node.kwarg] if arg]
    names += [node.id for node in ast.walk(function) if isinstance(node, ast.Name) and isinstance(node.ctx, ast.Store)]
    names += [node.name for node in ast.walk(function) if isinstance(node, ast.FunctionDef) and node is not function]
    return names


CHANGING = set("append clear extend insert pop remove reverse setdefault update add discard".split())


def same_as(value):
    """The texts of the names, attributes and items that may be this very value."""
    if isinstance(value, ast.IfExp):
        return same_as(value.body) | same_as(value.orelse)
    if isinstance(value, ast.BoolOp):
        return set().union(*map(same_as, value.values))
    return {ast.unparse(value)} if isinstance(value, (ast.Name, ast.Attribute, ast.Subscript)) else set()


def other_names(function):
    """The pairs of texts of which one is given to the other in a function, as it is."""
    for node in ast.walk(function):
        if isinstance(node, ast.Assign):
            for target in node.targets:
                pairs = [(target, node.value)]
                if isinstance(target, ast.Tuple) and isinstance(node.value, ast.Tuple):
                    pairs = zip(target.elts, node.value.elts)
                for one, value in pairs:
                    yield from ((ast.unparse(one), other) for other in same_as(value))


def changed_in(loop):
    """The texts of what a loop changes."""
    for node in ast.walk(loop):
        if isinstance(node, ast.Call) and isinstance(node.func, ast.Attribute) and node.func.attr in CHANGING:
            yield from same_as(node.func.value)
        if isinstance(node, ast.Call) and isinstance(node.func, ast.Name) and node.func.id.startswith("heap"):
            yield from same_as(node.args[0])
        if isinstance(node, ast.Subscript) and isinstance(node.ctx, (ast.Store, ast.Del)):
            yield from same_as(node.value)
        if isinstance(node, ast.AugAssign) and isinstance(node.value, (ast.List, ast.ListComp)):
            yield from same_as(node.target)


def walked_by(over):
    """The texts of what a loop goes over, also through enumerate, zip and the like."""
    if isinstance(over, ast.Call) and isinstance(over.func, ast.Name) and over.func.id in ("enumerate", "zip", "reversed"):
        return set().union(*map(walked_by, over.args))
    if isinstance(over, ast.Call) and isinstance(over.func, ast.Attribute) and over.func.attr in ("items", "keys", "values"):
        return walked_by(over.func.value)
    return same_as(over)


def walked_and_changed(function):
    """What a loop of a function goes over and changes, by this name or by another one."""
    groups = {}
    for one, other in other_names(function):
        merged = groups.get(one, {one}) | groups.get(other, {other})
        groups.update({name: merged for name in merged})
    found = []
    for node in ast.walk(function):
        if isinstance(node, ast.For):
            changed = set(changed_in(node))
            found += [over for over in walked_by(node.iter) if groups.get(over, {over}) & changed]
    return found


class Form(unittest.TestCase):

    def each(self, *kinds):
        for name, tree in TREES.items():
            for node in ast.walk(tree):
                if isinstance(node, kinds):
                    yield name, node

    def test_folder_holds_only_files_of_the_package(self):
        names = [name for name in os.listdir(PACKAGE) if name != "__pycache__"]
        self.assertEqual([name for name in names if not re.fullmatch(r"[a-z_]+\.py", name)], [])
        self.assertLessEqual(len(names), 100)

    def test_sizes_and_characters(self):
        for name, text in SOURCES.items():
            lines = text.split("\n")
            self.assertLessEqual(len(lines), 399, name)
            self.assertLessEqual(max(map(len, lines)), 120, name)
            self.assertTrue(all(" " <= sign <= "~" or sign == "\n" for sign in text), name)
            self.assertNotRegex(text, r"[ \t]\n", name)
        for name, node in self.each(ast.FunctionDef):
            self.assertLessEqual(node.end_lineno - node.lineno + 1, 40, (name, node.name))

    def test_module_level(self):
        for name, tree in TREES.items():
            self.assertIsNotNone(ast.get_docstring(tree), name)
            for node in tree.body[1:]:
                self.assertIsInstance(node, (ast.ImportFrom, ast.FunctionDef, ast.ClassDef, ast.Assign), name)
                if isinstance(node, ast.Assign):
                    ast.literal_eval(node.value)

    def test_docstrings(self):
        for name, tree in TREES.items():
            for node in tree.body:
                if isinstance(node, (ast.FunctionDef, ast.ClassDef)):
                    self.assertIsNotNone(ast.get_docstring(node), (name, node.name))

    def test_imports(self):
        graph = {}
        for name, tree in TREES.items():
            graph[name[:-3]] = []
            imported = []
            for node in ast.walk(tree):
                self.assertNotIsInstance(node, ast.Import, name)
                if isinstance(node, ast.ImportFrom) and node.module == "heapq":
                    self.assertEqual([alias.name for alias in node.names], ["heappop", "heappush"])
                elif isinstance(node, ast.ImportFrom):
                    self.assertEqual((node.level, node.module.split(".")[0]), (0, "dimkeeper"))
                    target = node.module.split(".")[1]
                    graph[name[:-3]].append(target)
                    here = [getattr(each, "name", None) for each in TREES[target + ".py"].body]
                    here += [each.targets[0].id for each in TREES[target + ".py"].body if isinstance(each, ast.Assign)]
                    for alias in node.names:
                        self.assertIsNone(alias.asname)
                        self.assertIn(alias.name, here, (name, alias.name))
                        imported.append(alias.name)
            self.assertEqual(len(imported), len(set(imported)), name)
            used = {node.id for node in ast.walk(tree) if isinstance(node, ast.Name)}
            self.assertEqual([one for one in imported if one not in used], [], name)
        done = []
        while graph:
            free = [name for name in graph if all(other in done for other in graph[name])]
            self.assertTrue(free, graph)
            for name in free:
                done.append(name)
                del graph[name]

    def test_names(self):
        everything = set(dir(builtins))
        for name, tree in TREES.items():
            imports = {alias.name for node in tree.body if isinstance(node, ast.ImportFrom) for alias in node.names}
            classes = {node.name for node in tree.body if isinstance(node, ast.ClassDef)}
            functions = {node.name for node in tree.body if isinstance(node, ast.FunctionDef)}
            level = [node.targets[0].id for node in tree.body if isinstance(node, ast.Assign)]
            top = sorted(imports) + sorted(classes) + sorted(functions) + level
            self.assertEqual(len(top), len(set(top)), name)
            for one in list(functions) + list(classes) + level:
                self.assertNotIn(one, everything, name)
            for node in ast.walk(tree):
                if isinstance(node, ast.FunctionDef):
                    for one in bound_names(node):
                        self.assertNotIn(one, imports | classes | functions | everything | set(NAMES), (name, node.name))
                if isinstance(node, ast.Attribute):
                    self.assertNotIn(node.attr, NAMES, name)
                    if node.attr.startswith("__"):
                        self.assertIn(node.attr, ["__init__", "__class__", "__name__"], name)

    def test_builtins_and_methods(self):
        methods = {node.name for _, node in self.each(ast.FunctionDef)}
        for name, node in self.each(ast.Name):
            if isinstance(node.ctx, ast.Load) and node.id in dir(builtins):
                self.assertIn(node.id, BUILTINS, name)
        for name, node in self.each(ast.Call):
            if isinstance(node.func, ast.Attribute):
                self.assertTrue(node.func.attr in METHODS or node.func.attr in methods or node.func.attr == "__init__",
                                (name, node.func.attr, node.lineno))
            else:
                self.assertIsInstance(node.func, ast.Name, (name, node.lineno))

    def test_only_calls_of_methods(self):
        methods = {}
        for name, node in self.each(ast.ClassDef):
            for each in node.body:
                if isinstance(each, ast.FunctionDef) and not each.decorator_list:
                    methods[each.name] = True
        attributes = {node.attr for _, node in self.each(ast.Attribute) if isinstance(node.ctx, ast.Store)}
        for name, tree in TREES.items():
            called = {id(node.func) for node in ast.walk(tree) if isinstance(node, ast.Call)}
            for node in ast.walk(tree):
                if isinstance(node, ast.Attribute) and node.attr in methods and node.attr not in attributes:
                    self.assertIn(id(node), called, (name, node.attr, node.lineno))

    def test_statements_and_expressions(self):
        barred = (ast.GeneratorExp, ast.Global, ast.AsyncFunctionDef, ast.Await, ast.Div, ast.With, ast.Match,
                  ast.AnnAssign, ast.NamedExpr, ast.Nonlocal)
        for name, node in self.each(*barred):
            self.fail((name, node.lineno, node))
        for name, node in self.each(ast.Constant):
            self.assertNotIsInstance(node.value, (float, bytes), name)
            if isinstance(node.value, str):
                self.assertNotIn("%", node.value, name)
        for name, node in self.each(ast.Compare):
            for how, right in zip(node.ops, node.comparators):
                if isinstance(how, (ast.Is, ast.IsNot)):
                    self.assertIsInstance(right, ast.Constant, name)
        for name, node in self.each(ast.Raise):
            self.assertIsInstance(node.exc, ast.Call, name)
            self.assertIsInstance(node.exc.func, ast.Name, name)

    def test_only_own_errors_are_caught(self):
        own = {node.name for node in TREES["errors.py"].body if isinstance(node, ast.ClassDef)}
        for name, node in self.each(ast.Try):
            self.assertEqual((node.orelse, node.finalbody), ([], []), name)
            for handler in node.handlers:
                self.assertIsInstance(handler.type, ast.Name, name)
                self.assertIn(handler.type.id, own, name)

    def test_words(self):
        for name, text in SOURCES.items():
            tree = TREES[name]
            docs = [ast.get_docstring(node, clean=False) for node in ast.walk(tree)
                    if isinstance(node, (ast.Module, ast.ClassDef, ast.FunctionDef))]
            code = re.sub("#.*", "", text)
            for doc in docs:
                code = code.replace(doc, "") if doc else code
            for word in WORDS:
                self.assertNotRegex(code, r"\b" + word + r"\b", name)

    def test_classes(self):
        for name, node in self.each(ast.ClassDef):
            for each in node.body[1:]:
                self.assertIsInstance(each, (ast.FunctionDef, ast.Assign), (name, node.name))
                if isinstance(each, ast.FunctionDef) and each.name.startswith("__"):
                    self.assertIn(each.name, SPECIAL)

    def test_sets_are_not_kept(self):
        fine = ("sorted", "len")
        for name, tree in TREES.items():
            for node in ast.walk(tree):
                for child in ast.iter_child_nodes(node):
                    is_set = isinstance(child, (ast.Set, ast.SetComp)) or (
                        isinstance(child, ast.Call) and isinstance(child.func, ast.Name) and child.func.id == "set")
                    if not is_set:
                        continue
                    if isinstance(node, ast.Call) and isinstance(node.func, ast.Name) and node.func.id in fine:
                        continue
                    self.assertIsInstance(node, ast.Assign, (name, child.lineno))

    def test_nothing_is_changed_that_a_loop_goes_over(self):
        changing = set("append clear extend insert pop remove reverse setdefault update".split())
        for name, node in self.each(ast.For):
            over = ast.unparse(node.iter)
            for each in ast.walk(node):
                if isinstance(each, ast.Call) and isinstance(each.func, ast.Attribute) and each.func.attr in changing:
                    self.assertNotEqual(ast.unparse(each.func.value), over, (name, node.lineno))
                if isinstance(each, ast.Subscript) and isinstance(each.ctx, ast.Store):
                    self.assertNotEqual(ast.unparse(each.value), over, (name, node.lineno))

    def test_what_is_walked_has_no_other_name_by_which_it_is_changed(self):
        for name, node in self.each(ast.FunctionDef):
            self.assertEqual(walked_and_changed(node), [], name)

    def test_other_names_of_what_is_walked_are_found(self):
        for rows in ("for x in xs: ys.append(x)\nxs = ys", "ys = xs\nfor x in xs: ys.append(x)",
                     "for k, v in xs.items(): ys[k] = v\nxs = ys", "for x in ys: xs.pop()\nxs, k = ys, 1",
                     "for x in xs: del ys[x]\nxs = ys if k else []", "for x in xs: box.ys.append(x)\nxs = box.ys",
                     "for at, x in enumerate(xs): heappush(ys, x)\nys = k or xs", "for x in xs: ys += [x]\nxs = zs = ys",
                     "zs = xs\nys = zs\nfor x in xs: ys.append(x)", "for x in xs:\n  for y in x: x.append(y)"):
            self.assertTrue(walked_and_changed(ast.parse(rows)), rows)
        for rows in ("for x in xs: ys.append(x)\nxs = list(ys)", "for x in list(xs): ys.append(x)\nxs = ys",
                     "for x in xs: zs.append(x)\nxs = ys", "for x in xs: ys[x].append(x)\nxs = sorted(ys)"):
            self.assertEqual(walked_and_changed(ast.parse(rows)), [], rows)

    def test_two_lambdas_do_not_stand_on_one_line(self):
        lines = [(name, node.lineno) for name, node in self.each(ast.Lambda)]
        self.assertEqual(len(lines), len(set(lines)))

    def test_generators_have_names_of_their_own(self):
        functions = [node for _, node in self.each(ast.FunctionDef)]
        generators = [node.name for node in functions
                      if any(isinstance(each, (ast.Yield, ast.YieldFrom)) for each in ast.walk(node))]
        names = [node.name for node in functions]
        for each in generators:
            self.assertEqual(names.count(each), 1)
            self.assertNotIn(each, METHODS)


if __name__ == "__main__":
    unittest.main()
