"""Two small kinds for the tests, which try all assignments."""

from itertools import product

from shadowlinks.errors import NoSolution
from shadowlinks.kinds import Kind


class Tables(Kind):
    """Constraints are (names, table), as in the kind rows, with the values 0, 1 and 2."""

    WORD = "rows"

    def names_in(self, constraint):
        return constraint[0]

    def is_valid(self, names, constraint):
        own, table = constraint
        if not super().is_valid(names, constraint):
            return False
        if list(own) != sorted(set(own)) or list(table) != sorted(set(table)):
            return False
        return all(len(row) == len(own) and set(row) <= {0, 1, 2} for row in table)

    def holds(self, constraint, assignment):
        return tuple(assignment[name] for name in constraint[0]) in constraint[1]

    def contradiction(self):
        return (), ()

    def solutions(self, names, constraints):
        found = []
        for row in product((0, 1, 2), repeat=len(names)):
            assignment = dict(zip(names, row))
            if all(self.holds(constraint, assignment) for constraint in constraints):
                found.append(assignment)
        return found

    def table(self, names, solutions):
        rows = {tuple(solution[name] for name in names) for solution in solutions}
        return names, ((names, tuple(sorted(rows))),)

    def rename(self, theory, table):
        names = tuple(sorted(table.get(name, name) for name in theory[0]))
        back = {table.get(name, name): name for name in theory[0]}
        constraints = []
        for own, rows in theory[1]:
            new = tuple(sorted(table.get(name, name) for name in own))
            places = [own.index(back[name]) for name in new]
            constraints.append((new, tuple(sorted(tuple(row[place] for place in places) for row in rows))))
        return names, tuple(constraints)

    def eliminate(self, theory, name):
        others = tuple(other for other in theory[0] if other != name)
        return self.table(others, self.solutions(*theory))

    def lift(self, theory, name, assignment):
        if set(assignment) != set(theory[0]) - {name}:
            raise AssertionError("the assignment has other names")
        for value in (0, 1, 2):
            if all(self.holds(constraint, {**assignment, name: value}) for constraint in theory[1]):
                return value
        raise NoSolution("no value fits")

    def ground(self, theory):
        if theory[0] != ():
            raise AssertionError("the theory has names")
        return {} if self.solutions(*theory) else None

    def normal(self, theory):
        return self.table(theory[0], self.solutions(*theory))

    def certificate(self, theory, constraint):
        return ("follows",) if self.counterexample(theory, constraint) is None else None

    def accepts(self, theory, constraint, certificate):
        return certificate == self.certificate(theory, constraint)

    def counterexample(self, theory, constraint):
        for solution in self.solutions(*theory):
            if not self.holds(constraint, solution):
                return solution
        return None

    def pin(self, names, assignment):
        return self.table(names, [assignment])


class Sequences(Tables):
    """The same for words: constraints are (names, rows), and each row begins with the ground."""

    WORD = "words"
    LONGEST = 3

    def is_valid(self, names, constraint):
        return all(name in names for name in constraint[0])

    def holds(self, constraint, assignment):
        row = (assignment[""], *(assignment[name] for name in constraint[0]))
        return row in constraint[1]

    def solutions(self, names, constraints):
        found = []
        for length in range(self.LONGEST + 1):
            words = ["".join(letters) for letters in product("ab", repeat=length)]
            for row in product(words, repeat=len(names)):
                assignment = {"": length, **dict(zip(names, row))}
                if all(self.holds(constraint, assignment) for constraint in constraints):
                    found.append(assignment)
        return found

    def table(self, names, solutions):
        rows = {(solution[""], *(solution[name] for name in names)) for solution in solutions}
        return names, ((names, tuple(sorted(rows))),)

    def lift(self, theory, name, assignment):
        if set(assignment) != {"", *theory[0]} - {name}:
            raise AssertionError("the assignment has other names")
        for letters in product("ab", repeat=assignment[""]):
            value = "".join(letters)
            if all(self.holds(constraint, {**assignment, name: value}) for constraint in theory[1]):
                return value
        raise NoSolution("no value fits")

    def ground(self, theory):
        if theory[0] != ():
            raise AssertionError("the theory has names")
        solutions = self.solutions(*theory)
        return solutions[0] if solutions else None
