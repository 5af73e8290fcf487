"""The rules of the language that can be read off the files, and the names of the interface."""

import ast
import builtins
import unittest
from pathlib import Path

FOLDER = Path(__file__).resolve().parent.parent / "everymatch"
FILES = sorted(FOLDER.glob("*.py"))

LIBRARY = {
    "heapq": {"heappush", "heappop", "heapify", "heapreplace", "heappushpop"},
    "math": {"gcd", "lcm", "isqrt", "comb", "perm", "factorial"},
    "itertools": {"product", "combinations", "permutations", "chain", "accumulate", "pairwise", "islice",
                  "zip_longest"},
    "collections": {"defaultdict", "deque"},
}
BUILTINS = set("""len range enumerate zip min max sum abs sorted reversed int str bool bytes list tuple dict set
    frozenset isinstance ord repr any all divmod pow getattr hasattr setattr iter next map super property
    staticmethod classmethod Exception ValueError TypeError KeyError IndexError LookupError ZeroDivisionError
    ArithmeticError OverflowError RuntimeError NotImplementedError AttributeError StopIteration
    NotImplemented""".split())
BARRED = (ast.AsyncFor, ast.AsyncFunctionDef, ast.AsyncWith, ast.Await, ast.Import, ast.Div, ast.MatMult)

# The functions of the interface with their parameters, file by file.
INTERFACE = {
    "documents": """is_document(thing) parents(document) children(document,node) sizes(document)
        place_of(document,node) node_at(document,place) write_document(document) read_document(text)
        piece_of(document,node) flipped(document) depth_of(document) breadth_of(document)""",
    "edits": """is_edit(thing) edited(document,edit) edited_all(document,edits) carried(document,edit)
        kept_pairs(document,edit) back_edit(document,edit) edits_between(document,other)
        laid_over(document,other,pairs)""",
    "sayings": """is_saying(thing) free_names(saying) write_saying(saying) read_saying(text)
        named_anew(saying,pairs) turned(saying) pushed_in(saying)""",
    "meaning": "holds(saying,document,nodes) matches(saying,document)",
    "machines": """is_machine(thing) state_of(machine,document,laying) states_of(machine,document,laying)
        lets(machine,document,laying) takes(machine,document,nodes) joined_both(machine,other)
        joined_either(machine,other) opposite(machine) without(machine,name) with_name(machine,name) once(names)
        least(machine) size(machine) machine_of(saying)""",
    "everywhere": "same_everywhere(saying,other) some_document(saying) in_all(saying)",
    "shapes": """is_shape(thing) is_balanced(shape) width_of(shape) height_of(shape) tallest(width)
        even_shape(width) joined_shapes(shape,other) put_shape(shape,place) taken_shape(shape,place)
        cut_shape(shape,many) reach(document)""",
    "ways": "row_ways(machine,document,node,begin,end) node_ways(machine,document,node)",
    "desk": "run_desk(text)",
}

# The classes of the interface with their methods; the first call of each tells what the class itself takes.
CLASSES = {
    "answers": """Kept(document,saying) count() match(number) number(nodes) behind(nodes) first() last()
        is_match(nodes) listed(most) document() copy() looks() edit(edit) shapes()""",
    "changes": """Change(elder,newer,pairs,saying) added_count() taken_count() added(number) taken(number)
        added_number(nodes) taken_number(nodes) looks()""",
    "sessions": """Session(document,sayings) edit(edit) back(edition) document(edition) count(saying,edition)
        match(saying,edition,number) number(saying,edition,nodes) behind(saying,edition,nodes)
        added(saying,edition,number) taken(saying,edition,number) changes(saying,edition) looks() copy()""",
}


def trees():
    return [(path, ast.parse(path.read_text(encoding="utf-8"))) for path in FILES]


def nodes(tree, *kinds):
    return [node for node in ast.walk(tree) if isinstance(node, kinds)]


def bound_names(tree):
    """All names that the file binds anywhere."""
    found = {node.id for node in nodes(tree, ast.Name) if not isinstance(node.ctx, ast.Load)}
    found |= {node.name for node in nodes(tree, ast.FunctionDef, ast.ClassDef)}
    found |= {node.arg for node in nodes(tree, ast.arg)}
    return found | {name.name for node in nodes(tree, ast.ImportFrom) for name in node.names}


class LanguageTest(unittest.TestCase):
    def test_files(self):
        self.assertTrue((FOLDER / "__init__.py").is_file())
        self.assertLessEqual(len(FILES), 100)
        for path in FOLDER.iterdir():
            if path.name != "__pycache__":
                self.assertEqual(path.suffix, ".py")
                self.assertRegex(path.stem, "^(__init__|__main__|[a-z][a-z0-9_]*)$")

    def test_sizes_and_signs(self):
        for path, tree in trees():
            text = path.read_text(encoding="utf-8")
            rows = text.split("\n")
            self.assertLessEqual(len(rows), 400, path.name)
            self.assertLessEqual(max(len(row) for row in rows), 120, path.name)
            self.assertTrue(all(sign == "\n" or " " <= sign <= "~" for sign in text), path.name)
            for node in nodes(tree, ast.FunctionDef):
                self.assertLessEqual(node.end_lineno - node.lineno + 1, 40, (path.name, node.name))

    def test_imports(self):
        reached = {}
        for path, tree in trees():
            reached[path.stem] = set()
            for node in nodes(tree, ast.ImportFrom):
                self.assertIn(node, tree.body)
                self.assertEqual(node.level, 0)
                names = {name.name for name in node.names}
                self.assertEqual({name.asname for name in node.names}, {None})
                if node.module in LIBRARY:
                    self.assertLessEqual(names, LIBRARY[node.module])
                    continue
                package, stem = node.module.split(".")
                self.assertEqual(package, "everymatch")
                reached[path.stem].add(stem)
                other = ast.parse((FOLDER / f"{stem}.py").read_text(encoding="utf-8"))
                own = {one.name for one in other.body if isinstance(one, (ast.FunctionDef, ast.ClassDef))}
                own |= {one.targets[0].id for one in other.body if isinstance(one, ast.Assign)}
                self.assertLessEqual(names, own, path.name)
        while reached:
            ready = [stem for stem, others in reached.items() if not others & set(reached)]
            self.assertTrue(ready, "files import from each other")
            reached = {stem: others for stem, others in reached.items() if stem not in ready}

    def test_module_level(self):
        for path, tree in trees():
            for node in tree.body:
                docstring = isinstance(node, ast.Expr) and node is tree.body[0]
                plain = isinstance(node, ast.Assign) and not nodes(node, ast.Call, ast.Lambda, ast.ListComp)
                kinds = (ast.ImportFrom, ast.FunctionDef, ast.ClassDef)
                self.assertTrue(docstring or plain or isinstance(node, kinds), (path.name, node.lineno))

    def test_statements_and_expressions(self):
        for path, tree in trees():
            self.assertEqual(nodes(tree, *BARRED), [], path.name)
            for node in nodes(tree, ast.FunctionDef, ast.ClassDef):
                self.assertTrue(isinstance(node, ast.FunctionDef) or not node.decorator_list)
            for node in nodes(tree, ast.Compare):
                for sign, right in zip(node.ops, node.comparators):
                    if isinstance(sign, (ast.Is, ast.IsNot)):
                        self.assertIn(getattr(right, "value", 0), (None, True, False), (path.name, node.lineno))
            for node in nodes(tree, ast.Tuple):
                unread = [one for one in node.elts if isinstance(one, ast.Name) and one.id == "_"]
                self.assertLessEqual(len(unread), 1, (path.name, node.lineno))
            for node in nodes(tree, ast.Constant):
                self.assertNotIsInstance(node.value, (float, complex))
                if isinstance(node.value, str):
                    self.assertNotIn("%", node.value, (path.name, node.lineno))

    def test_names(self):
        own = {path.stem: bound_names(tree) for path, tree in trees()}
        for path, tree in trees():
            for name in own[path.stem]:
                self.assertRegex(name, "^(_|_?[A-Za-z][A-Za-z0-9_]*|__[a-z]+__)$")
                self.assertFalse(hasattr(builtins, name) and not name.startswith("__"), (path.name, name))
            for node in nodes(tree, ast.Name):
                self.assertIn(node.id, own[path.stem] | BUILTINS, (path.name, node.lineno))
            imported = {name.name for node in nodes(tree, ast.ImportFrom) for name in node.names}
            classes = {node.name for node in nodes(tree, ast.ClassDef)}
            local = {node.arg for node in nodes(tree, ast.arg)}
            local |= {node.id for node in nodes(tree, ast.Name) if isinstance(node.ctx, ast.Store)}
            self.assertEqual(local & (imported | classes), set(), path.name)
            loaded = {node.id for node in nodes(tree, ast.Name) if isinstance(node.ctx, ast.Load)}
            self.assertEqual(imported - loaded, set(), path.name)

    def test_interface(self):
        for stem, told in INTERFACE.items():
            tree = ast.parse((FOLDER / f"{stem}.py").read_text(encoding="utf-8"))
            own = {node.name: node for node in tree.body if isinstance(node, ast.FunctionDef)}
            for call in told.split():
                self.check_call(own, call, [])

    def test_classes_of_the_interface(self):
        for stem, told in CLASSES.items():
            tree = ast.parse((FOLDER / f"{stem}.py").read_text(encoding="utf-8"))
            name, parameters = told.split()[0].split("(")
            body = [node for node in tree.body if isinstance(node, ast.ClassDef) and node.name == name][0].body
            own = {node.name: node for node in body if isinstance(node, ast.FunctionDef)}
            for call in ["__init__(" + parameters, *told.split()[1:]]:
                self.check_call(own, call, ["self"])

    def check_call(self, own, call, first):
        """Check that a function of this name takes these parameters."""
        name, names = call[:-1].split("(")
        self.assertIn(name, own)
        parameters = own[name].args
        self.assertEqual([one.arg for one in parameters.args], first + [one for one in names.split(",") if one], name)
        self.assertEqual(parameters.defaults + parameters.kwonlyargs + parameters.posonlyargs, [])

    def test_methods_and_attributes(self):
        """No name is a method and an attribute, and no attribute has a name that values of Python's have."""
        barred = set(dir(list)) | set(dir(dict)) | set(dir(str)) | set(dir(set)) | set(dir(int)) | {"args"}
        methods = {node.name for _, tree in trees() for one in nodes(tree, ast.ClassDef) for node in one.body
                   if isinstance(node, ast.FunctionDef)}
        stored = {node.attr for _, tree in trees() for node in nodes(tree, ast.Attribute)
                  if isinstance(node.ctx, ast.Store)}
        read = {node.attr for _, tree in trees() for node in nodes(tree, ast.Attribute)}
        self.assertEqual(stored & methods, set())
        self.assertEqual(stored & barred, set())
        self.assertLessEqual(methods & barred, {"count", "copy", "__init__"})
        self.assertLessEqual(read - methods - stored, barred)


if __name__ == "__main__":
    unittest.main()
