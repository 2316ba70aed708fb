"""Promises that hold for every kind: points 1, 13 to 20, 23 and 25. The tests of each kind add its own."""

import copy
from itertools import permutations

from shadowlinks.errors import InvalidConstraint, InvalidText, InvalidTheory, NoSolution
from shadowlinks.parts import Part
from shadowlinks.parttexts import format_part, parse_part
from shadowlinks.shadows import check_theory, complete, follows, implies, satisfies, shadow, solve
from shadowlinks.theories import join, restrict
from tests.texts import check_tuples


def subsets(names):
    """All tuples of some of the names, in ascending order of the names."""
    for number in range(1 << len(names)):
        yield tuple(name for at, name in enumerate(names) if number >> at & 1)


def same_solutions(kind, first, second):
    return implies(kind, first, second) and implies(kind, second, first)


class KindChecks:
    """Tests for a class with `kind`, `theories()`, `questions(theory)`, `retold(theory)` and `NAMES`.

    `questions` gives constraints about names of a theory, `retold` other theories with its solutions.
    """

    def with_questions(self):
        for theory in self.theories():
            for constraint in self.questions(theory):
                yield theory, constraint

    def first_by_shadows(self, theory, assignment):
        """What point 19 says, from the shadows themselves."""
        values = dict(assignment)
        for name in theory[0]:
            if name not in values:
                shown = [other for other in theory[0] if other in values or other == name]
                others = [other for other in shown if other != name]
                values[name] = self.kind.lift(shadow(self.kind, theory, shown=shown), name, restrict(values, others))
        return values

    def test_the_word(self):
        self.assertEqual(self.kind.WORD, self.kind.__class__.__name__.lower())
        self.assertEqual(vars(self.kind), {})

    def test_theories_are_valid(self):
        for theory in self.theories():
            self.assertIsNone(check_theory(self.kind, theory))

    def test_invalid_theories(self):
        for theory in self.theories():
            names, constraints = theory
            with self.assertRaises(InvalidTheory):
                check_theory(self.kind, ((*names, "A"), constraints))
            for at, constraint in enumerate(constraints):
                for name in self.kind.names_in(constraint):
                    fewer = tuple(other for other in names if other != name)
                    with self.assertRaises(InvalidConstraint) as caught:
                        check_theory(self.kind, (fewer, constraints))
                    self.assertLessEqual(caught.exception.index, at)

    def test_one_of_certificate_and_counterexample(self):
        for theory, constraint in self.with_questions():
            certificate = self.kind.certificate(theory, constraint)
            counterexample = self.kind.counterexample(theory, constraint)
            self.assertEqual(certificate is None, counterexample is not None, (theory, constraint))
            self.assertIs(follows(self.kind, theory, constraint), counterexample is None)
            if certificate is not None:
                self.assertIs(self.kind.accepts(theory, constraint, certificate), True, (theory, constraint))
            else:
                self.assertEqual(set(counterexample) - {""}, set(theory[0]))
                self.assertIs(satisfies(self.kind, theory, counterexample), True)
                self.assertIs(self.kind.holds(constraint, counterexample), False)

    def test_a_certificate_is_for_its_constraint(self):
        for theory, constraint in self.with_questions():
            certificate = self.kind.certificate(theory, constraint)
            if certificate is not None:
                for other in self.questions(theory):
                    if self.kind.counterexample(theory, other) is not None:
                        self.assertIs(self.kind.accepts(theory, other, certificate), False)

    def test_the_contradiction(self):
        contradiction = self.kind.contradiction()
        self.assertEqual(self.kind.names_in(contradiction), ())
        self.assertIs(self.kind.is_valid((), contradiction), True)
        for theory in self.theories():
            solution = solve(self.kind, theory)
            self.assertIs(follows(self.kind, theory, contradiction), solution is None)
            if solution is not None:
                self.assertIs(self.kind.holds(contradiction, solution), False)
                self.assertIs(satisfies(self.kind, theory, solution), True)

    def test_unsatisfiable_theories_show_everything(self):
        found = 0
        for theory, constraint in self.with_questions():
            if solve(self.kind, theory) is None:
                found += 1
                self.assertIs(follows(self.kind, theory, constraint), True)
        self.assertGreater(found, 0)

    def test_the_normal_form_keeps_the_solutions(self):
        for theory in self.theories():
            normal = self.kind.normal(theory)
            self.assertEqual(normal[0], theory[0])
            self.assertIsNone(check_theory(self.kind, normal))
            self.assertTrue(same_solutions(self.kind, theory, normal), theory)
            self.assertEqual(self.kind.normal(normal), normal)

    def test_equal_normal_forms_mean_equal_solutions(self):
        grouped = {}
        for theory in self.theories():
            grouped.setdefault(theory[0], []).append((theory, self.kind.normal(theory)))
        for pairs in grouped.values():
            for first, normal in pairs[:12]:
                for second, other in pairs[:12]:
                    self.assertEqual(normal == other, same_solutions(self.kind, first, second))

    def test_theories_that_are_told_otherwise(self):
        for theory in self.theories():
            for other in self.retold(theory):
                self.assertEqual(self.kind.normal(other), self.kind.normal(theory), (theory, other))

    def test_eliminating(self):
        for theory in self.theories():
            for name in theory[0]:
                less = self.kind.eliminate(theory, name)
                self.assertEqual(less[0], tuple(other for other in theory[0] if other != name))
                self.assertIsNone(check_theory(self.kind, less))
                # What follows about the other names is the same before and after.
                self.assertTrue(implies(self.kind, theory, (theory[0], less[1])))
                for constraint in self.questions(theory):
                    if name not in self.kind.names_in(constraint):
                        wanted = follows(self.kind, theory, constraint)
                        self.assertIs(follows(self.kind, less, constraint), wanted, (theory, name, constraint))

    def test_each_solution_of_an_eliminated_theory_can_be_lifted(self):
        for theory in self.theories():
            for name in theory[0]:
                less = self.kind.eliminate(theory, name)
                for constraint in self.questions(less):
                    solution = self.kind.counterexample(less, constraint)
                    if solution is not None:
                        value = self.kind.lift(theory, name, solution)
                        self.assertIs(satisfies(self.kind, theory, {**solution, name: value}), True)

    def test_no_value_to_lift(self):
        found = 0
        for theory in self.theories():
            for name in theory[0]:
                less = self.kind.eliminate(theory, name)
                for constraint in less[1]:
                    others = self.kind.counterexample((less[0], ()), constraint)
                    if others is not None:
                        found += 1
                        with self.assertRaises(NoSolution):
                            self.kind.lift(theory, name, others)
        self.assertGreater(found, 0)

    def test_every_order_of_elimination(self):
        for theory in self.theories():
            for shown in subsets(theory[0]):
                found = []
                for order in permutations([name for name in theory[0] if name not in shown]):
                    left = theory
                    for name in order:
                        left = self.kind.eliminate(left, name)
                    found.append(self.kind.normal(left))
                self.assertEqual(found, found[:1] * len(found))
                self.assertEqual(shadow(self.kind, theory, shown=shown[::-1]), found[0])

    def test_first_solutions(self):
        for theory in self.theories():
            found = solve(self.kind, theory)
            start = self.kind.ground(shadow(self.kind, theory, shown=()))
            self.assertEqual(found is None, start is None)
            if found is not None:
                self.assertEqual(found, self.first_by_shadows(theory, start))

    def test_completing(self):
        for theory in self.theories():
            for constraint in self.questions(theory)[:4]:
                solution = self.kind.counterexample(theory, constraint)
                if solution is not None:
                    for names in subsets(theory[0]):
                        given = restrict(solution, names)
                        kept = dict(given)
                        found = complete(self.kind, theory, given)
                        self.assertEqual(given, kept)
                        self.assertEqual(found, self.first_by_shadows(theory, given))
                        self.assertIs(satisfies(self.kind, theory, found), True)
                        self.assertIsNot(found, given)

    def test_completing_without_a_solution(self):
        found = 0
        for theory in self.theories():
            for names in subsets(theory[0]):
                left = shadow(self.kind, theory, shown=names)
                for constraint in left[1]:
                    given = self.kind.counterexample((names, ()), constraint)
                    if given is not None:
                        found += 1
                        with self.assertRaises(NoSolution):
                            complete(self.kind, theory, given)
        self.assertGreater(found, 0)

    def test_renaming(self):
        for theory in self.theories():
            names = theory[0]
            for table in self.tables(names):
                renamed = self.kind.rename(theory, table)
                self.assertEqual(renamed[0], tuple(sorted(table.get(name, name) for name in names)))
                self.assertIsNone(check_theory(self.kind, renamed))
                self.assertEqual(len(renamed[1]), len(theory[1]))
                for before, after in zip(theory[1], renamed[1]):
                    wanted = sorted(table.get(name, name) for name in self.kind.names_in(before))
                    self.assertEqual(sorted(self.kind.names_in(after)), wanted)
                back = {table[name]: name for name in table}
                self.assertEqual(self.kind.rename(renamed, back), theory)
                for constraint in self.questions(theory):
                    solution = self.kind.counterexample(theory, constraint)
                    if solution is not None:
                        moved = {table.get(name, name): solution[name] for name in solution}
                        self.assertIs(satisfies(self.kind, renamed, moved), True)
                        for before, after in zip((*theory[1], constraint), (*renamed[1], None)):
                            if after is not None:
                                self.assertIs(self.kind.holds(before, solution), self.kind.holds(after, moved))

    def tables(self, names):
        """Tables that exchange names, that turn their order, that name some of them, and none."""
        yield {}
        if len(names) > 0:
            yield {names[0]: "zz"}
            yield {names[-1]: "aa.b"}
            yield {name: f"x{9 - at}" for at, name in enumerate(names)}
        if len(names) > 1:
            yield {names[0]: names[1], names[1]: names[0]}
            yield {name: other for name, other in zip(names, (*names[1:], names[0]))}

    def test_pinning(self):
        found = 0
        for theory in self.theories():
            for constraint in self.questions(theory):
                solution = self.kind.counterexample(theory, constraint)
                if solution is not None:
                    found += 1
                    pinned = self.kind.pin(theory[0], solution)
                    self.assertEqual(pinned[0], theory[0])
                    self.assertIsNone(check_theory(self.kind, pinned))
                    self.assertEqual(solve(self.kind, pinned), solution)
                    other = self.other_value(theory, solution)
                    if other is not None:
                        self.assertIs(satisfies(self.kind, pinned, other), False)
                    both = join([pinned, theory])
                    self.assertEqual(self.kind.normal(both), self.kind.normal(pinned))
                    self.assertIsNone(solve(self.kind, (both[0], (*both[1], constraint))))
        self.assertGreater(found, 0)

    def test_texts_of_parts(self):
        for theory in self.theories():
            names, constraints = theory
            part = Part(self.kind.WORD, "p", names[:1], names[1:], constraints)
            read = parse_part(self.kind, format_part(part))
            self.assertEqual((read.theory, read.shown, read.hidden), (theory, names[:1], names[1:]))

    def test_bad_lines_of_parts(self):
        for theory in self.theories():
            names, constraints = theory
            lines = format_part(Part(self.kind.WORD, "p", names[:1], names[1:], constraints))
            bad = [(f"part p {self.kind.WORD}s", 1), ("part P " + self.kind.WORD, 1), ("show zz zz", 2), ("hide a.A", 3)]
            bad += [(f"{line} ", at + 1) for at, line in enumerate(lines)]
            bad += [(line.replace("say ", "say  "), at + 1) for at, line in enumerate(lines) if line.startswith("say ")]
            for line, number in bad:
                for first in (1, 20):
                    with self.assertRaises(InvalidText) as caught:
                        parse_part(self.kind, (*lines[:number - 1], line, *lines[number:]), first=first)
                    self.assertEqual(caught.exception.line, number + first - 1)
            for at, constraint in enumerate(constraints):
                if self.kind.names_in(constraint):
                    # The part has none of the names any more.
                    fewer = (lines[0], "show", "hide", *lines[3:])
                    with self.assertRaises(InvalidText) as caught:
                        parse_part(self.kind, fewer)
                    self.assertLessEqual(caught.exception.line, 4 + at)
            with self.assertRaises(InvalidText) as caught:
                parse_part(self.kind, lines[:-1])
            self.assertEqual(caught.exception.line, len(lines))
            with self.assertRaises(InvalidText) as caught:
                parse_part(self.kind, (*lines, "end"))
            self.assertEqual(caught.exception.line, len(lines) + 1)

    def test_arguments_stay_and_results_are_tuples(self):
        for theory, constraint in self.with_questions():
            kept = copy.deepcopy((theory, constraint))
            certificate = self.kind.certificate(theory, constraint)
            results = [self.kind.normal(theory), self.kind.names_in(constraint)]
            if certificate is not None:
                results.append(certificate)
                self.kind.accepts(theory, constraint, certificate)
            for name in theory[0]:
                results.append(self.kind.eliminate(theory, name))
            for table in self.tables(theory[0]):
                before = dict(table)
                results.append(self.kind.rename(theory, table))
                self.assertEqual(table, before)
            solution = self.kind.counterexample(theory, constraint)
            if solution is not None:
                before = dict(solution)
                results.append(self.kind.pin(theory[0], solution))
                self.kind.holds(constraint, solution)
                for name in theory[0]:
                    others = {other: value for other, value in solution.items() if other != name}
                    given = dict(others)
                    self.kind.lift(theory, name, given)
                    self.assertEqual(given, others)
                self.assertEqual(solution, before)
                again = self.kind.counterexample(theory, constraint)
                self.assertIsNot(again, solution)
            for result in results:
                check_tuples(self, result)
            self.assertEqual((theory, constraint), kept)
