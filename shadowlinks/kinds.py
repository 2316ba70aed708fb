"""The base class of the kinds."""


class Kind:
    """A kind of theories; its objects have no state.

    Each kind has its own `WORD` and its own version of every method.
    """

    WORD = "none"

    def names_in(self, constraint):
        """Return the names that the constraint mentions, in the order in which they stand in it."""
        return ()

    def is_valid(self, names, constraint):
        """Return True if the constraint mentions only these names, otherwise False."""
        return all([name in names for name in self.names_in(constraint)])

    def holds(self, constraint, assignment):
        """Return True if the constraint holds under the assignment, otherwise False."""
        raise NotImplementedError("holds")

    def contradiction(self):
        """Return the constraint of the kind that mentions no names and never holds."""
        raise NotImplementedError("contradiction")

    def rename(self, theory, table):
        """Return the theory in which each name that is a key of the dict is replaced by its value."""
        raise NotImplementedError("rename")

    def eliminate(self, theory, name):
        """Return a theory over the other names with the restricted solutions of the theory."""
        raise NotImplementedError("eliminate")

    def lift(self, theory, name, assignment):
        """Return the first value of the name that fits the assignment of the other names."""
        raise NotImplementedError("lift")

    def ground(self, theory):
        """Return the first solution of a theory without names, or None."""
        raise NotImplementedError("ground")

    def normal(self, theory):
        """Return the normal form of the theory."""
        raise NotImplementedError("normal")

    def certificate(self, theory, constraint):
        """Return a certificate that the constraint follows from the theory, or None."""
        raise NotImplementedError("certificate")

    def accepts(self, theory, constraint, certificate):
        """Return True if the certificate shows that the constraint follows, otherwise False."""
        raise NotImplementedError("accepts")

    def counterexample(self, theory, constraint):
        """Return a solution of the theory in which the constraint fails, or None."""
        raise NotImplementedError("counterexample")

    def pin(self, names, assignment):
        """Return a theory over the names whose only solution is the assignment."""
        raise NotImplementedError("pin")
