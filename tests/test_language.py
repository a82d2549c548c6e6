"""The rules of LANGUAGE.md that a reading of the syntax trees can check, and the names of the whole interface."""

import ast
import builtins
import inspect
import unittest
from importlib import import_module
from pathlib import Path

PACKAGE = Path(__file__).parent.parent / "sumgrove"
FILES = sorted(PACKAGE.glob("*.py"))
TREES = {path.stem: ast.parse(path.read_text(encoding="utf-8")) for path in FILES}

ALLOWED_BUILTINS = set("""
    len range enumerate zip min max sum abs sorted reversed int str bool list tuple dict set frozenset isinstance ord
    repr any all divmod Exception ValueError TypeError KeyError IndexError LookupError ZeroDivisionError ArithmeticError
    OverflowError RuntimeError NotImplementedError NotImplemented super property staticmethod classmethod
""".split())
ALLOWED_METHODS = set("""
    append clear copy count endswith extend find get index insert isalnum isalpha isdigit islower isspace isupper items
    join keys ljust lower lstrip partition pop remove replace reverse rfind rjust rpartition rsplit rstrip setdefault
    split splitlines startswith strip update upper values zfill bit_length add discard __init__
""".split())
BARRED_NAMES = set("""
    register mro elements open input law version_info with_traceback add_note attrgetter breakpoint builtins compile
    copyright credits delattr dir eval exec exit gc globals help id importlib license locals methodcaller os quit type
    vars sys
""".split())
BARRED_NODES = (ast.Global, ast.AsyncFunctionDef, ast.AsyncFor, ast.AsyncWith, ast.Await, ast.Import, ast.Div,
                ast.MatMult)

INTERFACE = {
    "errors": {"GroveError": None, "InvalidSealer": "modulus", "InvalidTree": "", "NoSuchName": "name",
               "NotShown": "name", "WrongRoot": "root", "Unlike": "first second", "InvalidText": "line reason"},
    "names": {"is_name": "value", "number_of": "name", "bit_at": "name place", "parting": "first second"},
    "seals": {"Sealer": "modulus", "is_collision": "sealer first second"},
    "trees": {"is_well_formed": "sealer tree", "summary_of": "sealer tree", "row_of": "sealer tree",
              "top_row": "sealer tree", "root_of": "sealer tree", "build": "leaves", "leaves_of": "tree",
              "get": "tree name", "put": "tree leaf", "drop": "tree name"},
    "pruning": {"prune": "sealer tree names", "prune_for": "sealer tree question",
                "join_trees": "sealer first second", "open_count": "tree"},
    "questions": {"ask": "sealer tree question"},
    "checking": {"answer": "sealer root tree question"},
    "collisions": {"find_collision": "sealer first second", "search_collision": "sealer rows"},
    "texts": {"write_tree": "tree", "read_tree": "sealer text"},
    "refusals": {"InvalidRules": None, "InvalidNotes": None, "InvalidGroup": "index", "GroupRefused": "index word",
                 "TooManyEpochs": None, "NoSuchEpoch": "epoch", "CutOff": "epoch", "InvalidShelf": "most",
                 "BookRefused": "place index word", "InvalidHouse": None, "InvalidValue": "value",
                 "SignedAlready": "epoch", "BadStatement": None, "InvalidLine": "body", "NoAccount": "name"},
    "accounts": {"lock_of": "sealer key", "is_notes": "notes kinds modulus", "is_enough": "notes worths epoch",
                 "new_account": "name kinds notes", "are_accounts": "sealer kinds tree"},
    "deeds": {"Rules": "kinds fee rates", "Group": "deeds signatures epoch", "check_group": "sealer rules group",
              "group_names": "rules group", "minted": "group kind"},
    "groups": {"do_group": "sealer rules epoch tree group"},
    "epochs": {"epoch_name": "number", "Chronicle": "sealer", "Shelf": "most",
               "check_growth": "sealer old_top old_length top length tree"},
    "copies": {"Copy": "sealer rules epoch root tree"},
    "books": {"do_all": "sealer rules epoch tree groups", "join_books": "sealer rules epoch tree first second",
              "are_apart": "rules group other"},
    "houses": {"House": "sealer seed last"},
    "auditors": {"holds": "sealer marks card statement", "check_paper": "sealer marks paper",
                 "opened_twice": "sealer paper", "Auditor": "sealer marks"},
    "trails": {"BadStep": "place", "row_of_group": "group", "mark_of_group": "sealer group", "Receipts": "sealer",
               "check_receipt": "sealer receipts_root number group root tree",
               "step_of": "sealer rules tree group", "check_trail": "sealer rules epoch before trail"},
    "journals": {"write_group": "group", "read_group": "body", "group_line": "group", "end_line": "",
                 "readable_length": "text", "read_lines": "text"},
    "changes": {"Uneven": "name", "change_paper": "sealer first second",
                "check_change": "sealer first_root second_root paper"},
    "ledgers": {"Ledger": "sealer rules notes", "restart": "sealer rules notes text"},
    "saving": {"InvalidSave": "line", "save_ledger": "ledger", "load_ledger": "sealer rules notes text"},
    "wallets": {"UnknownKeys": "name", "Wallet": "sealer seed"},
    "watchers": {"ReportRefused": "word", "Watcher": "sealer rules marks root", "report_of": "ledger house trail",
                 "audit": "watcher other"},
}
METHODS = {
    ("seals", "Sealer"): {"modulus": "self", "seal": "self row"},
    ("epochs", "Chronicle"): {
        "add": "self root count receipts", "length": "self", "top": "self", "tree": "self", "root_of": "self epoch",
        "count_of": "self epoch", "receipts_of": "self epoch", "show": "self epochs", "growth": "self old_length"},
    ("epochs", "Shelf"): {"keep": "self epoch tree", "snapshot": "self epoch", "kept": "self",
                          "keep_all": "self rows length"},
    ("copies", "Copy"): {"root": "self", "tree": "self", "epoch": "self", "grow": "self tree", "do": "self group",
                         "answer": "self question", "forget": "self names", "next_epoch": "self"},
    ("houses", "House"): {"marks": "self", "card": "self epoch", "sign": "self epoch value",
                          "sign_again": "self epoch value"},
    ("auditors", "Auditor"): {"hear": "self card statement", "kept": "self", "meet": "self other",
                              "heard": "self epoch"},
    ("trails", "Receipts"): {"add": "self group root", "root": "self", "show": "self number"},
    ("ledgers", "Ledger"): {
        "root": "self", "tree": "self", "epoch": "self", "chronicle": "self", "shelf": "self", "journal": "self",
        "do": "self group", "do_batch": "self groups", "end_epoch": "self", "receipts": "self", "trail": "self",
        "answer": "self question", "show": "self question", "show_names": "self names", "worth": "self name kind",
        "total": "self kind", "parts": "self", "take_over": "self parts"},
    ("wallets", "Wallet"): {
        "add": "self name keys", "all_keys": "self name", "names": "self", "fresh": "self",
        "notes_for": "self need places limit hold", "remember": "self name", "sign": "self name need",
        "done": "self signatures", "undone": "self"},
    ("watchers", "Watcher"): {"take": "self card statement trail growth", "root": "self", "top": "self",
                              "length": "self", "auditor": "self"},
}


def nodes(kind):
    """All nodes of a kind with the names of their files."""
    return [(stem, node) for stem, tree in TREES.items() for node in ast.walk(tree) if isinstance(node, kind)]


def defined_in(stem):
    """The names that a file defines itself at module level."""
    found = set()
    for node in TREES[stem].body:
        if isinstance(node, (ast.FunctionDef, ast.ClassDef)):
            found.add(node.name)
        elif isinstance(node, ast.Assign):
            found.update(target.id for target in node.targets)
    return found


def imports_of(stem):
    return [node for node in TREES[stem].body if isinstance(node, ast.ImportFrom)]


class FilesTest(unittest.TestCase):
    def test_only_python_files(self):
        others = [path.name for path in PACKAGE.iterdir() if path.suffix != ".py" and path.name != "__pycache__"]
        self.assertEqual(others, [])

    def test_sizes_and_characters(self):
        for path in FILES:
            text = path.read_text(encoding="utf-8")
            self.assertTrue(all(character == "\n" or " " <= character <= "~" for character in text), path)
            lines = text.split("\n")
            self.assertLessEqual(len(lines), 400, path)
            self.assertLessEqual(max(len(line) for line in lines), 120, path)
        for stem, node in nodes(ast.FunctionDef):
            self.assertLessEqual(node.end_lineno - node.lineno + 1, 40, (stem, node.name))

    def test_module_level(self):
        for stem, tree in TREES.items():
            for node in tree.body[1:]:
                self.assertIsInstance(node, (ast.ImportFrom, ast.FunctionDef, ast.ClassDef, ast.Assign), stem)
            self.assertIsNotNone(ast.get_docstring(tree), stem)

    def test_imports(self):
        for stem in TREES:
            for node in imports_of(stem):
                self.assertEqual(node.level, 0)
                package, _, other = node.module.partition(".")
                self.assertEqual(package, "sumgrove")
                for alias in node.names:
                    self.assertIn(alias.name, defined_in(other))

    def test_no_import_cycles(self):
        done = []
        while len(done) < len(TREES):
            ready = [stem for stem in TREES if stem not in done
                     and all(node.module.partition(".")[2] in done for node in imports_of(stem))]
            self.assertNotEqual(ready, [])
            done += ready


class SyntaxTest(unittest.TestCase):
    def test_no_barred_statements_and_signs(self):
        self.assertEqual(nodes(BARRED_NODES), [])
        self.assertEqual([node for _, node in nodes(ast.Constant) if isinstance(node.value, (float, complex))], [])
        self.assertEqual([node for _, node in nodes(ast.FunctionDef) if node.decorator_list], [])

    def test_docstrings_of_functions_and_classes(self):
        for stem, node in nodes((ast.FunctionDef, ast.ClassDef)):
            if node.name != "__init__":
                self.assertIsNotNone(ast.get_docstring(node), (stem, node.name))

    def test_builtins(self):
        for stem, node in nodes(ast.Name):
            if node.id in vars(builtins):
                self.assertIn(node.id, ALLOWED_BUILTINS, stem)
                self.assertIsInstance(node.ctx, ast.Load, (stem, node.id))
            self.assertNotIn(node.id, BARRED_NAMES, stem)

    def test_names_that_are_defined(self):
        # Only methods and attributes may have such names, and the document asks for none of them.
        for stem, node in nodes((ast.FunctionDef, ast.ClassDef, ast.arg)):
            name = node.arg if isinstance(node, ast.arg) else node.name
            self.assertNotIn(name, BARRED_NAMES.union(vars(builtins)), stem)

    def test_no_variable_has_the_name_of_an_import(self):
        for stem, tree in TREES.items():
            imported = {alias.name for node in imports_of(stem) for alias in node.names}
            for node in ast.walk(tree):
                name = getattr(node, "arg", None) if isinstance(node, ast.arg) else None
                if isinstance(node, ast.Name) and isinstance(node.ctx, ast.Store):
                    name = node.id
                self.assertNotIn(name, imported, stem)

    def test_methods(self):
        own = {node.name for _, node in nodes(ast.FunctionDef)}
        for stem, node in nodes(ast.Call):
            if isinstance(node.func, ast.Attribute):
                self.assertIn(node.func.attr, ALLOWED_METHODS | own, stem)

    def test_sets_and_strings(self):
        for _, node in nodes(ast.Constant):
            if isinstance(node.value, str):
                self.assertNotIn("%", node.value)
        self.assertEqual(nodes(ast.Set), [])


class InterfaceTest(unittest.TestCase):
    def test_functions_and_classes(self):
        for stem, entries in INTERFACE.items():
            module = import_module("sumgrove." + stem)
            for name, parameters in entries.items():
                self.assertIn(name, defined_in(stem))
                if parameters is not None:
                    self.check_parameters(getattr(module, name), parameters)

    def test_each_file(self):
        self.assertEqual(sorted(INTERFACE), sorted(stem for stem in TREES if stem != "__init__"))

    def test_methods_in_the_class_itself(self):
        for (stem, name), entries in METHODS.items():
            cls = getattr(import_module("sumgrove." + stem), name)
            for method, parameters in entries.items():
                self.assertIn(method, vars(cls))
                self.check_parameters(vars(cls)[method], parameters)

    def check_parameters(self, function, parameters):
        if function.__module__ == "sumgrove.errors" and parameters == "":
            function()
            return
        self.assertEqual(" ".join(inspect.signature(function).parameters), parameters, function)


if __name__ == "__main__":
    unittest.main()
