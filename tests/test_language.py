"""Rules of the language of the package that can be seen from its files alone."""

import ast
import builtins
import re
import unittest
from pathlib import Path

FOLDER = Path(__file__).resolve().parent.parent / "onorback"
FILES = sorted(path for path in FOLDER.iterdir() if path.name != "__pycache__")
CALLED = set("len range enumerate zip min max sum abs sorted reversed int str bool list tuple dict set isinstance ord "
             "repr any all divmod".split())
METHODS = set("append clear copy count endswith extend find get index insert isalnum isalpha isdigit islower isspace "
              "isupper items join keys ljust lower lstrip partition pop remove replace reverse rfind rjust rpartition "
              "rsplit rstrip setdefault split splitlines startswith strip update upper values zfill bit_length".split())
LISTED = {
    ast.Module, ast.ImportFrom, ast.alias, ast.FunctionDef, ast.arguments, ast.arg, ast.ClassDef, ast.Return, ast.Assign,
    ast.AugAssign, ast.For, ast.While, ast.If, ast.Raise, ast.Try, ast.ExceptHandler, ast.Expr, ast.Pass, ast.Break,
    ast.Continue, ast.BoolOp, ast.And, ast.Or, ast.BinOp, ast.Add, ast.Sub, ast.Mult, ast.FloorDiv, ast.Mod, ast.UnaryOp,
    ast.Not, ast.USub, ast.IfExp, ast.Dict, ast.ListComp, ast.DictComp, ast.comprehension, ast.Compare, ast.Eq, ast.NotEq,
    ast.Lt, ast.LtE, ast.Gt, ast.GtE, ast.Is, ast.IsNot, ast.In, ast.NotIn, ast.Call, ast.keyword, ast.FormattedValue,
    ast.JoinedStr, ast.Constant, ast.Attribute, ast.Subscript, ast.Starred, ast.Name, ast.List, ast.Tuple, ast.Slice,
    ast.Load, ast.Store, ast.Delete, ast.Del, ast.BitAnd, ast.BitOr, ast.BitXor, ast.Invert, ast.LShift,
    ast.RShift,
}
LIBRARY = {("itertools", "combinations"), ("math", "isqrt"), ("heapq", "heappop"), ("heapq", "heappush")}
BARRED = re.compile(r"_wall\w*|_WallAttr\w*|_(pe|dcw|enum|cm|twin_re|lay|law|stub)_\w*|_sre\w*"
                    r"|_(cold|tuplegetter|outside|record|written_out|member_names)[\d_]*"
                    r"|register|mro|elements|open|input|law|version_info|with_traceback|add_note|type|typing|enum")


class LanguageTest(unittest.TestCase):
    def each(self):
        for path in FILES:
            text = path.read_text(encoding="utf-8")
            yield path, text, ast.parse(text)

    def nodes(self, *kinds):
        for path, _, tree in self.each():
            for node in ast.walk(tree):
                if isinstance(node, kinds):
                    yield f"{path.name}:{getattr(node, 'lineno', 0)}", node

    def test_files(self):
        self.assertTrue(FILES)
        for path, text, tree in self.each():
            self.assertRegex(path.name, r"^(__init__|[a-z][a-z0-9_]*)\.py$")
            self.assertRegex(text, r"^[ -~\n]*$")
            self.assertIsNotNone(ast.get_docstring(tree), path.name)
            lines = text.split("\n")
            self.assertLessEqual(len(lines), 399)
            self.assertLessEqual(max(len(line) for line in lines), 120)

    def test_only_listed_parts(self):
        for where, node in self.nodes(ast.AST):
            self.assertIn(type(node), LISTED, where)

    def test_functions_are_small_and_plain(self):
        for where, node in self.nodes(ast.FunctionDef):
            self.assertLessEqual(node.end_lineno - node.lineno + 1, 40, where)
            self.assertFalse(node.decorator_list or node.args.vararg or node.args.kwarg or node.args.defaults, where)

    def test_imports(self):
        ahead = {}
        for path, _, tree in self.each():
            ahead[path.stem] = set()
            for node in tree.body:
                if isinstance(node, ast.ImportFrom) and node.module in dict(LIBRARY):
                    for alias in node.names:
                        self.assertIn((node.module, alias.name, alias.asname), {(*names, None) for names in LIBRARY})
                elif isinstance(node, ast.ImportFrom):
                    package, module = node.module.split(".")
                    self.assertEqual((package, node.level), ("onorback", 0))
                    ahead[path.stem].add(module)
                    target = ast.parse((FOLDER / (module + ".py")).read_text(encoding="utf-8"))
                    defined = {part.name for part in target.body if isinstance(part, (ast.FunctionDef, ast.ClassDef))}
                    defined |= {part.targets[0].id for part in target.body if isinstance(part, ast.Assign)}
                    for alias in node.names:
                        self.assertIn(alias.name, defined)
                        self.assertIsNone(alias.asname)
        while ahead:
            free = [name for name in ahead if not ahead[name] & set(ahead)]
            self.assertTrue(free, ahead)
            for name in free:
                del ahead[name]

    def test_module_level(self):
        for path, _, tree in self.each():
            for node in tree.body[1:]:
                self.assertIsInstance(node, (ast.ImportFrom, ast.FunctionDef, ast.ClassDef, ast.Assign), path.name)

    def test_names(self):
        for path, _, tree in self.each():
            taken = {part.name for part in tree.body if isinstance(part, ast.ClassDef)}
            taken |= {alias.name for part in tree.body if isinstance(part, ast.ImportFrom) for alias in part.names}
            for node in ast.walk(tree):
                if isinstance(node, ast.Name) and isinstance(node.ctx, ast.Store):
                    name = node.id
                elif isinstance(node, ast.arg):
                    name = node.arg
                else:
                    continue
                where = f"{path.name}:{node.lineno} {name}"
                self.assertNotIn(name, taken, where)
                self.assertFalse(name != "_" and hasattr(builtins, name), where)
                self.assertNotRegex(name, r"^__")

    def names_of_classes(self):
        """Where type(x).__name__ is read, the one use of this word."""
        for where, node in self.nodes(ast.Attribute):
            if node.attr == "__name__":
                self.assertIsInstance(node.value, ast.Call, where)
                self.assertIsInstance(node.value.args[0], ast.Name, where)
                self.assertEqual((node.value.func.id, len(node.value.args)), ("type", 1), where)
                yield where, "type"

    def test_barred_words(self):
        named = list(self.names_of_classes())
        for where, node in self.nodes(ast.Name, ast.Attribute, ast.arg, ast.FunctionDef, ast.ClassDef, ast.keyword):
            for field in ["id", "attr", "arg", "name"]:
                word = getattr(node, field, None)
                if isinstance(word, str) and (where, word) not in named:
                    self.assertIsNone(BARRED.fullmatch(word), where)

    def test_calls(self):
        own = {node.name for _, node in self.nodes(ast.FunctionDef)}
        classes = {node.name for _, node in self.nodes(ast.ClassDef)}
        library = {name for _, name in LIBRARY}
        named = list(self.names_of_classes())
        for where, node in self.nodes(ast.Call):
            if isinstance(node.func, ast.Name) and (where, node.func.id) not in named:
                self.assertIn(node.func.id, own | classes | library | CALLED, where)
            elif isinstance(node.func, ast.Name):
                self.assertFalse(node.keywords, where)
            else:
                self.assertIn(node.func.attr, METHODS | own, where)
            for keyword in node.keywords:
                self.assertIn(keyword.arg, {"key", "reverse"}, where)

    def test_sets_are_only_sorted_or_measured(self):
        for path, text, _ in self.each():
            for found in re.finditer(r"\bset\(", text):
                self.assertRegex(text[:found.start()], r"\b(sorted|len)\($", path.name)

    def test_strings(self):
        for where, node in self.nodes(ast.Constant):
            if isinstance(node.value, str):
                self.assertNotIn("%", node.value, where)
            self.assertNotIsInstance(node.value, (float, complex), where)

    def test_handlers_name_own_errors(self):
        classes = {node.name for _, node in self.nodes(ast.ClassDef)}
        for where, node in self.nodes(ast.ExceptHandler):
            self.assertIn(node.type.id, classes, where)


if __name__ == "__main__":
    unittest.main()
