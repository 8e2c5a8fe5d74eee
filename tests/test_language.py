"""The package keeps to its small subset of the language, as far as a short look at its files can tell."""

import ast
import builtins
import os
import unittest

FOLDER = os.path.join(os.path.dirname(os.path.dirname(os.path.abspath(__file__))), "trailkeep")
FILES = sorted(name for name in os.listdir(FOLDER) if name != "__pycache__")

BUILTINS = (
    "len range enumerate zip min max sum abs sorted reversed int str bool bytes list tuple dict set frozenset "
    "isinstance ord repr any all divmod pow Exception ValueError TypeError KeyError IndexError LookupError "
    "ZeroDivisionError ArithmeticError OverflowError RuntimeError NotImplementedError AttributeError StopIteration "
    "NotImplemented iter next getattr hasattr setattr type map"
).split()
METHODS = (
    "append clear copy count endswith extend find get index insert isalnum isalpha isdigit islower isspace isupper "
    "items join keys ljust lower lstrip partition pop remove replace reverse rfind rjust rpartition rsplit rstrip "
    "setdefault split splitlines startswith strip update upper values zfill bit_length sort add discard"
).split()
UNUSED_NAMES = "register mro elements open input law version_info with_traceback add_note".split()
KINDS_LEFT_OUT = (ast.AsyncFunctionDef, ast.AsyncFor, ast.AsyncWith, ast.Await, ast.Div, ast.MatMult)


def read(name):
    with open(os.path.join(FOLDER, name), encoding="utf-8") as file:
        return file.read()


def trees():
    return [(name, ast.parse(read(name))) for name in FILES]


def nodes(tree, *kinds):
    return [node for node in ast.walk(tree) if isinstance(node, kinds)]


def defined(tree):
    """The names that a file defines at module level, imports left out."""
    found = [node.name for node in tree.body if isinstance(node, (ast.FunctionDef, ast.ClassDef))]
    for node in tree.body:
        if isinstance(node, ast.Assign):
            found.extend([target.id for target in node.targets])
    return found


class TestLanguage(unittest.TestCase):
    def test_files(self):
        for name in FILES:
            text = read(name)
            self.assertTrue(name.endswith(".py"), name)
            self.assertTrue(all(sign == "\n" or " " <= sign <= "~" for sign in text), name)
            self.assertLessEqual(len(text.splitlines()), 399, name)
            self.assertLessEqual(max(len(line) for line in text.splitlines()), 120, name)

    def test_functions_are_small(self):
        for name, tree in trees():
            for node in nodes(tree, ast.FunctionDef):
                self.assertLessEqual(node.end_lineno - node.lineno + 1, 40, (name, node.name))

    def test_imports_name_the_file_that_defines(self):
        homes = {"trailkeep." + name[:-3]: defined(tree) for name, tree in trees()}
        for name, tree in trees():
            self.assertEqual(nodes(tree, ast.Import), [], name)
            for node in nodes(tree, ast.ImportFrom):
                self.assertEqual(node.level, 0, name)
                for alias in node.names:
                    self.assertIn(alias.name, homes[node.module], name)

    def test_module_level(self):
        for name, tree in trees():
            for node in tree.body:
                docstring = isinstance(node, ast.Expr) and isinstance(node.value, ast.Constant)
                allowed = (ast.ImportFrom, ast.FunctionDef, ast.ClassDef, ast.Assign)
                self.assertTrue(docstring or isinstance(node, allowed), (name, node.lineno))
            names = defined(tree) + [alias.name for node in nodes(tree, ast.ImportFrom) for alias in node.names]
            self.assertEqual(sorted(names), sorted(set(names)), name)

    def test_statements(self):
        for name, tree in trees():
            self.assertEqual(nodes(tree, *KINDS_LEFT_OUT), [], name)
            self.assertFalse([node for node in nodes(tree, ast.Constant) if isinstance(node.value, float)], name)
            for node in nodes(tree, ast.Constant):
                self.assertNotIn("%", node.value if isinstance(node.value, str) else "", name)
            for node in nodes(tree, ast.FunctionDef):
                self.assertFalse([part for part in node.decorator_list if not isinstance(part, ast.Name)], name)

    def test_names(self):
        known = dir(builtins)
        for name, tree in trees():
            for node in nodes(tree, ast.Name):
                if node.id in known:
                    self.assertIn(node.id, BUILTINS, (name, node.lineno))
                    self.assertIsInstance(node.ctx, ast.Load, (name, node.lineno))
            bound = [node.arg for node in nodes(tree, ast.arg)] + defined(tree)
            for word in bound:
                self.assertNotIn(word, known, name)
            used = bound + [node.id for node in nodes(tree, ast.Name)]
            used += [node.attr for node in nodes(tree, ast.Attribute)]
            used += [node.name for node in nodes(tree, ast.FunctionDef)]
            for word in used:
                self.assertNotIn(word, UNUSED_NAMES, name)

    def test_no_import_and_no_class_gets_another_meaning(self):
        for name, tree in trees():
            fixed = {alias.name for node in nodes(tree, ast.ImportFrom) for alias in node.names}
            fixed |= {node.name for node in nodes(tree, ast.ClassDef)}
            stored = {node.id for node in nodes(tree, ast.Name) if isinstance(node.ctx, ast.Store)}
            self.assertEqual((stored | {node.arg for node in nodes(tree, ast.arg)}) & fixed, set(), name)
            for alias in fixed - {node.name for node in nodes(tree, ast.ClassDef)}:
                self.assertIn(alias, [node.id for node in nodes(tree, ast.Name)], name)

    def test_no_two_files_import_from_each_other(self):
        near = {name[:-3]: {node.module[len("trailkeep."):] for node in nodes(tree, ast.ImportFrom)} for name, tree in trees()}
        for name in near:
            reached, coming = set(), [name]
            while coming:
                for other in near[coming.pop()] - reached:
                    reached.add(other)
                    coming.append(other)
            self.assertNotIn(name, reached)

    def test_methods_and_attributes_of_a_class_differ(self):
        for name, tree in trees():
            for node in nodes(tree, ast.ClassDef):
                methods = {part.name for part in node.body if isinstance(part, ast.FunctionDef)}
                stored = {part.attr for part in nodes(node, ast.Attribute) if isinstance(part.ctx, ast.Store)}
                self.assertEqual(methods & stored, set(), (name, node.name))

    def test_methods(self):
        own = [node.name for _, tree in trees() for node in nodes(tree, ast.FunctionDef)]
        for name, tree in trees():
            for node in nodes(tree, ast.Call):
                if isinstance(node.func, ast.Attribute):
                    self.assertIn(node.func.attr, METHODS + own, (name, node.lineno))

    def test_attributes_are_assigned_somewhere(self):
        own = {node.name for _, tree in trees() for node in nodes(tree, ast.FunctionDef)}
        attributes = [node for _, tree in trees() for node in nodes(tree, ast.Attribute)]
        assigned = {node.attr for node in attributes if isinstance(node.ctx, ast.Store)}
        for name, tree in trees():
            for node in nodes(tree, ast.Attribute):
                self.assertIn(node.attr, assigned | own | set(METHODS), (name, node.lineno))


class TestInterface(unittest.TestCase):
    """The names stand in the very files and classes under which the interface lists them."""

    def test_functions_and_methods(self):
        homes = dict(trees())
        for name, functions, classes in (
                ("plain.py", "is_deed from_picture is_picture", {"Plain": "do picture needs handles fallen"}),
                ("disk.py", "place_at", {"Disk": "sizes many read write force waiting standing cut fuse copied"}),
                ("groups.py", "data_block judge_group", {}), ("roots.py", "judge_root newer_root made", {}),
                ("meaning.py", "meaning road map_of top_number", {}),
                ("trail.py", "", {"Trail": "living read place_of free_keys put forget force root head beyond last "
                                           "next_number uses states disk clean chosen"}),
                ("inodes.py", "is_inode inode_content inode_told file_blocks file_words", {}),
                ("folders.py", "folder_blocks folder_entries is_path", {}),
                ("system.py", "formatted", {"System": "do picture needs handles room living done standing"}),
                ("examiner.py", "examine examine_holds tree_of blocks_of", {}),
                ("writers.py", "are_scripts is_weaving woven", {}), ("lives.py", "is_life lived", {}),
                ("images.py", "disk_text read_disk", {})):
            found = {node.name: node for node in homes[name].body if isinstance(node, (ast.FunctionDef, ast.ClassDef))}
            for word in functions.split():
                self.assertIsInstance(found[word], ast.FunctionDef)
            for word, methods in classes.items():
                own = [node.name for node in found[word].body if isinstance(node, ast.FunctionDef)]
                self.assertEqual(found[word].bases, [])
                self.assertLessEqual(set(methods.split()) | {"__init__"}, set(own))


if __name__ == "__main__":
    unittest.main()
