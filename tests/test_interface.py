"""The interface: names, arguments, and the file in which each function and class is defined."""

import importlib
import inspect
import unittest

FUNCTIONS = {
    "names": ["is_name(text)", "is_full_name(text)", "merge_names(*lists)"],
    "theories": ["join(theories)", "widen(theory, *names)", "restrict(assignment, names)"],
    "shadows": [
        "check_theory(kind, theory)", "satisfies(kind, theory, assignment)", "shadow(kind, theory, *, shown)",
        "solve(kind, theory)", "complete(kind, theory, assignment)", "follows(kind, theory, constraint)",
        "implies(kind, first, second)",
    ],
    "digits": ["is_number(text)", "parse_number(text, *, line=1)", "number_lines(lines, *, first=1)"],
    "namelists": ["parse_names(words, *, line=1)"],
    "bittexts": ["format_clause(constraint)", "parse_clause(text, *, line=1)"],
    "steptexts": ["format_step(constraint)", "parse_step(text, *, line=1)"],
    "sumtexts": [
        "format_linear(constraint)", "parse_linear(text, *, line=1)", "format_modular(constraint)",
        "parse_modular(text, *, line=1)",
    ],
    "tabletexts": ["format_table(constraint)", "parse_table(text, *, line=1)"],
    "machinetexts": ["format_machine(constraint)", "parse_machine(text, *, line=1)"],
    "notation": ["format_constraint(word, constraint)", "parse_constraint(word, text, *, line=1)"],
    "valuetexts": [
        "format_value(word, value)", "parse_value(word, text, *, line=1)", "format_assignment(word, assignment)",
        "parse_assignment(word, text, *, line=1)",
    ],
    "parttexts": [
        "format_part(part)", "parse_part(kind, lines, /, *, first=1)", "each_part(kind, lines, /, *, first=1)",
        "parse_parts(kind, lines, /, *, first=1)",
    ],
    "clauses": ["contains(first, second)", "resolvent(first, second, name)", "least_clauses(clauses)"],
}
CLASSES = {
    "errors": {
        name: [] for name in (
            "ShadowError", "InvalidName", "InvalidTheory", "InvalidConstraint", "InvalidPart", "InvalidLink",
            "InvalidTree", "InvalidText", "NoSolution", "NothingToUndo", "UnknownPart", "Incompatible",
        )
    },
    "kinds": {"Kind": ["names_in(self, constraint)", "is_valid(self, names, constraint)"]},
    "parts": {
        "Part": [
            "__init__(self, word, name, shown, hidden, constraints)", "__len__(self)", "__iter__(self)",
            "__contains__(self, x)", "__sub__(self, other)", "reveal(self, name)",
            "with_constraints(self, constraints)", "called(self, name)",
        ],
    },
}


def load(module):
    return importlib.import_module(f"shadowlinks.{module}")


class InterfaceTest(unittest.TestCase):
    def test_functions(self):
        for module, functions in FUNCTIONS.items():
            for wanted in functions:
                function = getattr(load(module), wanted.partition("(")[0])
                self.assertEqual(function.__name__ + str(inspect.signature(function)), wanted)
                self.assertEqual(function.__module__, f"shadowlinks.{module}")

    def test_generators(self):
        self.assertTrue(inspect.isgeneratorfunction(load("parttexts").each_part))

    def test_classes_define_their_methods_themselves(self):
        for module, classes in CLASSES.items():
            for name, methods in classes.items():
                made = getattr(load(module), name)
                self.assertEqual(made.__module__, f"shadowlinks.{module}")
                for wanted in methods:
                    method = vars(made)[wanted.partition("(")[0]]
                    self.assertEqual(method.__name__ + str(inspect.signature(method)), wanted)

    def test_class_methods_and_properties(self):
        part = vars(load("parts").Part)
        self.assertIsInstance(part["bare"], classmethod)
        self.assertEqual(str(inspect.signature(part["bare"].__func__)), "(cls, word, name)")
        for name in ("names", "theory"):
            self.assertIsInstance(part[name], property)


if __name__ == "__main__":
    unittest.main()
