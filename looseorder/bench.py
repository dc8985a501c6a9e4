"""A bench on which changes of a tongue are put, taken back and tried."""

from looseorder.changes import changed_by, changed_by_all, check_changes
from looseorder.errors import NoChange
from looseorder.flat import flat_readings
from looseorder.names import is_among
from looseorder.wishes import broken_wish


class Trial:
    """A block at whose end a bench is as it was."""

    def __init__(self, bench):
        self._bench = bench

    def __enter__(self):
        bench = self._bench
        self._start = bench.start
        self._tongue = bench.tongue
        self._standing = bench.standing
        self._log = bench.log
        self._last = bench._last
        return bench

    def __exit__(self, kind, value, trace):
        self._bench.start = self._start
        self._bench.tongue = self._tongue
        self._bench.standing = self._standing
        self._bench.log = self._log
        self._bench._last = self._last


class Bench:
    """A tongue and the changes that stand, in the order of putting."""

    def __init__(self, tongue):
        self.start = tongue
        self.tongue = tongue
        self.standing = ()
        self.log = ()
        self._last = 0

    def __len__(self):
        return len(self.standing)

    def __iter__(self):
        return iter(self.standing)

    def put(self, change):
        """Puts a change behind the standing ones; returns its number."""
        told = check_changes(self.start, [change])[0]
        self.tongue = changed_by(self.tongue, told)
        self._last += 1
        self.standing = (*self.standing, (self._last, told))
        self.log = (*self.log, ("put", self._last, told))
        return self._last

    def take_back(self, number):
        """Takes a standing change out, wherever it stands."""
        changes = dict(self.standing)
        if not is_among(number, list(changes)):
            raise NoChange(number)
        self.standing = tuple([row for row in self.standing if row[0] != number])
        self.tongue = changed_by_all(self.start, [change for _, change in self.standing])
        self.log = (*self.log, ("back", number, changes[number]))

    def broken_now(self, wishes):
        """The first wish that the tongue behind the standing changes does not grant, or None."""
        return broken_wish(self.tongue, wishes)

    def hear_now(self, frame, things, number):
        """All readings of the things in the tongue behind the standing changes."""
        return tuple(flat_readings(self.tongue, frame, things, number))

    def trial(self):
        """For a with statement: at the end of its block the bench is as it was."""
        return Trial(self)

    def tried(self, call):
        """What the call returns for the bench, which is left as it was."""
        with self.trial() as bench:
            return call(bench)
