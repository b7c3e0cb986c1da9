"""A log that grows, is purged and swept, and can take its last deeds back."""

from markthenpurge.checks import is_integer_within, is_key, is_list_or_tuple, is_position, is_range, is_record
from markthenpurge.errors import InvalidLog, InvalidRange, InvalidRead, NothingToUndo
from markthenpurge.logs import done_tombstones, next_list


class LiveLog:
    """The standing records of a log with their offsets, which of them are marked, and what was ahead of each deed."""

    def __init__(self, records=()):
        if not is_list_or_tuple(records) or not all([is_record(part) for part in records]):
            raise InvalidLog("records must be a list or tuple of records")
        # These lists are replaced and never changed, so earlier ones can be kept as they are.
        self._rows = [(offset, key, value) for offset, (key, value) in enumerate(records)]
        self._marked = []
        self._next = len(records)
        self._past = []

    @property
    def records(self):
        return [(key, value) for _, key, value in self._rows]

    @property
    def standing(self):
        return [offset for offset, _, _ in self._rows]

    @property
    def marked(self):
        return list(self._marked)

    @property
    def deeds(self):
        return len(self._past)

    def __len__(self):
        return len(self._rows)

    def __iter__(self):
        return iter(self._rows)

    def _remember(self):
        """Keep what is ahead of a deed."""
        self._past.append((self._rows, self._marked, self._next))

    def append(self, key, value):
        """Add a record; returns its offset."""
        if not is_record((key, value)):
            raise InvalidLog("a record must have a key, and an integer or None as its value")
        self._remember()
        offset = self._next
        self._rows = [*self._rows, (offset, key, value)]
        self._next = offset + 1
        return offset

    def purge(self, a, b):
        """Mark what a range of offsets marks; returns how many records are newly marked."""
        if not is_range(a, b, self._next):
            raise InvalidRange("a range must have offsets of appended records, 0 <= a <= b")
        self._remember()
        inside = [row for row in self._rows if a <= row[0] <= b]
        nexts = next_list([(key, value) for _, key, value in inside])
        found = [row[0] for row, later in zip(inside, nexts) if later is not None]
        fresh = [offset for offset in found if offset not in self._marked]
        self._marked = sorted([*self._marked, *fresh])
        return len(fresh)

    def sweep(self, *, drop=False):
        """Remove all marked records, with drop then done tombstones too; returns how many records are removed."""
        self._remember()
        removed = [at for at, row in enumerate(self._rows) if row[0] in self._marked]
        if drop:
            removed = removed + done_tombstones(self.records, removed)
        many = len(self._rows)
        self._rows = [row for at, row in enumerate(self._rows) if at not in removed]
        self._marked = []
        return many - len(self._rows)

    def read(self, key, offset):
        """The value of the newest standing record with this key at or before the offset, None if there is none."""
        if not is_key(key) or not is_position(offset, self._next):
            raise InvalidRead("a read must have a key and the offset of an appended record")
        found = [row[2] for row in self._rows if row[1] == key and row[0] <= offset]
        return found[-1] if found else None

    def current(self):
        """The values of the newest standing records, tombstones aside, by their keys in ascending order."""
        found = {key: value for _, key, value in self._rows}
        return {key: found[key] for key in sorted(found) if found[key] is not None}

    def back(self, *, count=1):
        """Take back the last deeds."""
        if not is_integer_within(count, 0, len(self._past)):
            raise NothingToUndo("there are fewer deeds")
        for _ in range(count):
            self._rows, self._marked, self._next = self._past.pop()
