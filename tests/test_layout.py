"""Where the interface stands, and the sizes that the package keeps to."""

import ast
import pathlib
import unittest

import sureprices

PACKAGE = pathlib.Path(sureprices.__file__).parent

INTERFACE = {
    "errors": {
        "PriceError": None, "InvalidShop": None, "InvalidBasket": None, "InvalidActs": None,
        "InvalidAct": None, "InvalidOffers": None, "InvalidKinds": None, "InvalidNumber": None,
        "Different": None, "NoFault": None, "NotThere": None, "NothingToUndo": None,
        "ParseError": None},
    "shops": {"is_shop": ["value"], "is_basket": ["shop", "value"]},
    "charges": {
        "amounts": ["shop", "basket"], "charge": ["shop", "basket"], "uses": ["shop", "basket"],
        "gain": ["shop", "basket"]},
    "faults": {
        "has_less": ["shop"], "first_less": ["shop"], "box": ["shop"], "has_loss": ["shop"],
        "some_loss": ["shop"], "is_fault": ["shop", "value"]},
    "acts": {
        "are_acts": ["shop", "value"], "shop_under": ["shop", "acts"],
        "touches": ["shop", "acts", "act", "basket"]},
    "cures": {
        "are_offers": ["shop", "value"], "price_of": ["shop", "offers", "acts"],
        "is_cure": ["shop", "offers", "kinds", "acts"],
        "least_price": ["shop", "offers", "kinds"], "all_cheapest": ["shop", "offers", "kinds"],
        "sure_acts": ["shop", "offers", "kinds"]},
    "papers": {
        "paper": ["shop", "offers", "kinds", "price"],
        "is_paper": ["shop", "offers", "kinds", "price", "value"]},
    "rules": {"idle_rules": ["shop"], "effects": ["shop", "basket"]},
    "alike": {
        "same_charges": ["one", "other"], "parting_basket": ["one", "other"],
        "exchangeable": ["shop"]},
    "greater": {"least_above": ["shop", "basket"], "fewest_more": ["shop", "basket"]},
    "texts": {"format_shop": ["shop"], "parse_shop": ["text"]},
    "till": {"Till": None},
    "naive": {
        "naive_less": ["shop", "most"], "naive_least_price": ["shop", "offers", "kinds"]},
}

# The methods of the till, which stand in its class itself.
METHODS = {
    "__init__": ["self", "shop"], "__eq__": ["self", "other"], "__len__": ["self"],
    "__str__": ["self"], "put": ["self", "good"], "take": ["self", "good"], "basket": ["self"],
    "undo": ["self"], "duplicate": ["self"]}


def tree_of(path):
    return ast.parse(path.read_text(encoding="ascii"))


class Interface(unittest.TestCase):
    def test_each_name_is_defined_in_its_file(self):
        for name, parts in INTERFACE.items():
            body = tree_of(PACKAGE / (name + ".py")).body
            functions = {node.name: [argument.arg for argument in node.args.args]
                         for node in body if isinstance(node, ast.FunctionDef)}
            classes = {node.name: None for node in body if isinstance(node, ast.ClassDef)}
            found = {**functions, **classes}
            for part, arguments in parts.items():
                self.assertIn(part, found)
                self.assertEqual(found[part], arguments)


    def test_methods_of_the_till(self):
        body = tree_of(PACKAGE / "till.py").body
        till = [node for node in body if isinstance(node, ast.ClassDef)][0]
        found = {node.name: [argument.arg for argument in node.args.args]
                 for node in till.body if isinstance(node, ast.FunctionDef)}
        for name, arguments in METHODS.items():
            self.assertEqual(found[name], arguments)


class Imports(unittest.TestCase):
    def test_nothing_from_outside(self):
        """No clock, no randomness and no files: nothing is imported that has any of these."""
        for path in sorted(PACKAGE.glob("*.py")):
            for node in ast.walk(tree_of(path)):
                self.assertNotIsInstance(node, ast.Import, path)
                if isinstance(node, ast.ImportFrom):
                    top = node.module.split(".")[0]
                    self.assertIn(top, ("sureprices", "math"), path)
                if isinstance(node, ast.Name):
                    self.assertNotIn(node.id, ("open", "print", "input", "id", "hash"), path)


class Sizes(unittest.TestCase):
    def paths(self):
        return [path for path in sorted(PACKAGE.rglob("*")) if "__pycache__" not in path.parts]

    def test_only_files_of_the_program(self):
        for path in self.paths():
            self.assertEqual(path.suffix, ".py")

    def test_lines(self):
        for path in self.paths():
            lines = path.read_text(encoding="ascii").splitlines()
            self.assertLessEqual(len(lines), 399, path)
            for line in lines:
                self.assertLessEqual(len(line), 120, path)
                self.assertNotIn("\t", line, path)

    def test_functions(self):
        for path in self.paths():
            for node in ast.walk(tree_of(path)):
                if isinstance(node, ast.FunctionDef):
                    self.assertLessEqual(node.end_lineno - node.lineno + 1, 40, node.name)
