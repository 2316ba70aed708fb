"""The interface: names, arguments, and the file in which each function and class is defined."""

import importlib
import inspect
import unittest

FUNCTIONS = {
    "names": ["is_name(text)", "is_full_name(text)", "merge_names(*lists)"],
    "theories": ["join(theories)", "widen(theory, *names)", "restrict(assignment, names)"],
    "shadows": [
        "check_theory(kind, theory)", "satisfies(kind, theory, assignment)", "shadow(kind, theory, *, shown)",
        "solve(kind, theory)", "complete(kind, theory, assignment)", "follows(kind, theory, constraint)",
        "implies(kind, first, second)",
    ],
    "digits": ["is_number(text)", "parse_number(text, *, line=1)", "number_lines(lines, *, first=1)"],
    "namelists": ["parse_names(words, *, line=1)"],
    "bittexts": ["format_clause(constraint)", "parse_clause(text, *, line=1)"],
    "steptexts": ["format_step(constraint)", "parse_step(text, *, line=1)"],
    "sumtexts": [
        "format_linear(constraint)", "parse_linear(text, *, line=1)", "format_modular(constraint)",
        "parse_modular(text, *, line=1)",
    ],
    "tabletexts": ["format_table(constraint)", "parse_table(text, *, line=1)"],
    "machinetexts": ["format_machine(constraint)", "parse_machine(text, *, line=1)"],
    "notation": ["format_constraint(word, constraint)", "parse_constraint(word, text, *, line=1)"],
    "valuetexts": [
        "format_value(word, value)", "parse_value(word, text, *, line=1)", "format_assignment(word, assignment)",
        "parse_assignment(word, text, *, line=1)",
    ],
    "parttexts": [
        "format_part(part)", "parse_part(kind, lines, /, *, first=1)", "each_part(kind, lines, /, *, first=1)",
        "parse_parts(kind, lines, /, *, first=1)",
    ],
    "clauses": ["contains(first, second)", "resolvent(first, second, name)", "least_clauses(clauses)"],
    "cuts": ["derive_lines(clauses, certificate)"],
    "ratios": [
        "ratio(top, bottom=1)", "total(*parts)", "times(first, second)", "quotient(first, second)",
        "is_below(first, second)", "ratio_at(terms, assignment)",
    ],
    "sums": ["is_terms(terms)"],
    "bounds": ["greatest(theory, terms)", "least(theory, terms)", "span(theory, *, terms)"],
    "corners": ["corners(theory)"],
    "progressions": [
        "progression(modulus, rest)", "is_in(number, steps)", "solve_one(coefficient, modulus, rest)",
        "meet(*progressions)",
    ],
    "spreads": ["values_of(theory, terms)", "solutions_within(theory, *, low, high)"],
    "tables": ["join_tables(first, second)", "drop_column(constraint, name)", "can_hold(constraint, decided)"],
    "machines": ["column_numbers(names, assignment)", "run(machine, numbers)"],
    "subsets": ["least_machine(machine)"],
    "words": ["solutions(theory, length)"],
    "bitlists": ["each_solution(theory)"],
    "rowbridge": ["rows_of_bits(theory)"],
    "wordbridge": ["words_of_bits(theory)"],
    "linebridge": ["lines_of_steps(theory)"],
    "paritybridge": ["bits_of_parities(theory)", "parities_of_bits(theory)"],
    "bitgrades": [
        "combine(grade, *assignments)", "bit_grades(theory)", "breach(theory, *, grade)", "envelope(theory, *, grade)",
    ],
    "linegrades": ["two_names(theory)"],
    "wholegrades": ["equations_only(theory)"],
    "links": [
        "whole(link)", "shadows(link)", "works(link)", "solution(link)", "culprits(link)", "bundled(link, name, *, shown)",
    ],
    "orders": ["groups_of(kind, theory)", "clusters(groups, order)", "price(groups, order)", "cheapest(groups, names)"],
    "trees": [
        "walk(parents)", "check_tree(groups, parents)", "join_tree(groups)", "messages(kind, theories, parents)",
        "views(kind, theories, parents)",
    ],
    "compare": [
        "works_in(kind, part, theory)", "compare(kind, first, second)", "surrounding(kind, first, second)",
        "least_surrounding(kind, first, second)", "flattened(kind, part)", "alike_families(kind, parts)",
        "idle_names(kind, part)", "silent(kind, part)", "core(kind, part, *, backwards=False)",
        "reasons(kind, theory, constraint, *, backwards=False)", "middle(kind, first, second)",
        "middles(kind, *theories)",
    ],
    "trials": ["attempt(linker, deeds)", "commit(linker, deeds)"],
    "meetings": [
        "cheapest_shadow(kind, theory, *, shown)", "link_tree(link)", "part_views(link)", "fill_in(link, assignment)",
        "decide(link, constraint)", "nested(link, *teams)",
    ],
    "scripts": ["read_script(kind, lines, *, first=1)", "format_script(kind, commands)"],
}
KIND_METHODS = [
    "names_in(self, constraint)", "is_valid(self, names, constraint)", "holds(self, constraint, assignment)",
    "contradiction(self)", "rename(self, theory, table)", "eliminate(self, theory, name)",
    "lift(self, theory, name, assignment)", "ground(self, theory)", "normal(self, theory)",
    "certificate(self, theory, constraint)", "accepts(self, theory, constraint, certificate)",
    "counterexample(self, theory, constraint)", "pin(self, names, assignment)",
]
KINDS = {
    "bits": "Bits", "steps": "Steps", "lines": "Lines", "wholes": "Wholes", "rows": "Rows", "words": "Words",
}
CLASSES = {
    "errors": {
        name: [] for name in (
            "ShadowError", "InvalidName", "InvalidTheory", "InvalidConstraint", "InvalidPart", "InvalidLink",
            "InvalidTree", "InvalidText", "NoSolution", "NothingToUndo", "UnknownPart", "Incompatible",
        )
    },
    "kinds": {"Kind": ["names_in(self, constraint)", "is_valid(self, names, constraint)"]},
    "parts": {
        "Part": [
            "__init__(self, word, name, shown, hidden, constraints)", "__len__(self)", "__iter__(self)",
            "__contains__(self, x)", "__sub__(self, other)", "reveal(self, name)",
            "with_constraints(self, constraints)", "called(self, name)",
        ],
    },
    "differences": {
        "Differences": [
            "__init__(self, theory)", "__len__(self)", "__iter__(self)", "__getitem__(self, at)",
            "__contains__(self, x)", "__add__(self, other)",
        ],
    },
    "sums": {
        "Sum": [
            "__init__(self, terms=())", "__len__(self)", "__iter__(self)", "__contains__(self, x)",
            "__getitem__(self, at)", "__add__(self, other)", "__sub__(self, other)", "__neg__(self)",
            "__mul__(self, other)", "__rmul__(self, other)", "at(self, assignment)", "renamed(self, table)",
        ],
    },
    "links": {
        "Link": [
            "__init__(self, kind, parts)", "__len__(self)", "__iter__(self)", "__contains__(self, x)",
            "__getitem__(self, at)", "__add__(self, other)", "__sub__(self, other)", "replaced(self, part)",
        ],
    },
    "linker": {
        "Linker": [
            "__init__(self, kind)", "__len__(self)", "__iter__(self)", "__contains__(self, x)", "__getitem__(self, at)",
            "__setitem__(self, at, worth)", "__iadd__(self, other)", "__isub__(self, other)", "put(self, part)",
            "take(self, name)", "edit(self, part)", "exchange(self, name, part)", "release(self, part)",
            "say(self, name, *constraints)", "unsay(self, name, index)", "hide(self, name, shown)",
            "unhide(self, name, hidden)", "flatten(self, name)", "undo(self, *, steps=1)", "redo(self, *, steps=1)",
            "perform(self, word, *arguments)", "entries_about(self, name)", "shadow_of(self, name)",
            "current_link(self)", "current_solution(self)", "current_culprits(self)", "why(self, constraint)",
            "fits(self, part)", "surrounding_of(self, name)", "report(self)",
        ],
    },
    "trials": {
        name: ["__init__(self, linker)", "__enter__(self)", "__exit__(self, kind, value, trace)"]
        for name in ("Trial", "Batch")
    },
    "desk": {"Desk": ["__init__(self, kind)", "run(self, lines)", "saved(self)"]},
    **{module: {name: KIND_METHODS} for module, name in KINDS.items()},
}
PROPERTIES = {
    "parts": {"Part": ["names", "theory"]},
    "differences": {"Differences": ["satisfiable", "lowest", "highest"]},
    "links": {"Link": ["interface"]},
    "linker": {"Linker": ["working", "journal"]},
}
CLASS_METHODS = {
    "parts": ("Part", "bare", "(cls, word, name)"),
    "linker": ("Linker", "of", "(cls, kind, parts)"),
}
GENERATORS = {
    "parttexts": ["each_part"], "corners": ["corners"], "spreads": ["solutions_within"], "words": ["solutions"],
    "bitlists": ["each_solution"], "orders": ["clusters"], "trees": ["walk"],
}


def load(module):
    return importlib.import_module(f"shadowlinks.{module}")


class InterfaceTest(unittest.TestCase):
    def test_functions(self):
        for module, functions in FUNCTIONS.items():
            for wanted in functions:
                function = getattr(load(module), wanted.partition("(")[0])
                self.assertEqual(function.__name__ + str(inspect.signature(function)), wanted)
                self.assertEqual(function.__module__, f"shadowlinks.{module}")

    def test_generators(self):
        for module, functions in GENERATORS.items():
            for name in functions:
                self.assertTrue(inspect.isgeneratorfunction(getattr(load(module), name)))

    def test_classes_define_their_methods_themselves(self):
        for module, classes in CLASSES.items():
            for name, methods in classes.items():
                made = getattr(load(module), name)
                self.assertEqual(made.__module__, f"shadowlinks.{module}")
                for wanted in methods:
                    method = vars(made)[wanted.partition("(")[0]]
                    self.assertEqual(method.__name__ + str(inspect.signature(method)), wanted)

    def test_class_methods_and_properties(self):
        for module, (name, method, wanted) in CLASS_METHODS.items():
            found = vars(getattr(load(module), name))[method]
            self.assertIsInstance(found, classmethod)
            self.assertEqual(str(inspect.signature(found.__func__)), wanted)
        for module, classes in PROPERTIES.items():
            for name, properties in classes.items():
                for wanted in properties:
                    self.assertIsInstance(vars(getattr(load(module), name))[wanted], property)

    def test_kinds(self):
        base = load("kinds").Kind
        for module, name in KINDS.items():
            made = getattr(load(module), name)
            self.assertTrue(issubclass(made, base))
            self.assertEqual(vars(made)["WORD"], module)
            self.assertIsInstance(made(), base)


if __name__ == "__main__":
    unittest.main()
