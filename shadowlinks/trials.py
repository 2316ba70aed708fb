"""Blocks in which a linker is tried out, or in which several deeds become one."""


class Trial:
    """A block after which a linker is as it was before."""

    def __init__(self, linker):
        self._linker = linker

    def __enter__(self):
        self._remember()
        return self._linker

    def __exit__(self, kind, value, trace):
        linker = self._linker
        linker.standing = self._standing
        linker.entries = self._entries
        linker.done = self._done
        linker.undone = self._undone

    def _remember(self):
        """Keep what the linker has now. It is replaced there and never changed, so it can be given back."""
        self._standing = self._linker.standing
        self._entries = self._linker.entries
        self._done = self._linker.done
        self._undone = self._linker.undone


class Batch(Trial):
    """A block that counts as one deed, or after an error as none."""

    def __init__(self, linker):
        Trial.__init__(self, linker)

    def __enter__(self):
        self._remember()
        # With the empty string as its name, the block is the last deed to be taken back.
        self._after = (*self._done, (self._standing, ""))
        return self._linker

    def __exit__(self, kind, value, trace):
        linker = self._linker
        if kind is None:
            linker.done = self._after
            linker.undone = ()
        else:
            linker.standing = self._standing
            linker.entries = self._entries
            linker.done = self._done
            linker.undone = self._undone


def attempt(linker, deeds):
    """Return whether the linker would work after the deeds, and its culprits then."""
    with Trial(linker) as held:
        for deed in deeds:
            held.perform(*deed)
        return held.working, held.current_culprits()


def commit(linker, deeds):
    """Do the deeds as one, and return whether the linker works."""
    with Batch(linker) as held:
        for deed in deeds:
            held.perform(*deed)
    return linker.working
