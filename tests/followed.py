"""A live log that is followed by hand: a plain list of all appended records, each with what happened to it."""

import copy


class Followed:
    def __init__(self, records=()):
        # A row has an offset, a key, a value, and whether the record stands and is marked.
        self.rows = [[offset, key, value, True, False] for offset, (key, value) in enumerate(records)]
        self.past = []

    def remember(self):
        self.past.append(copy.deepcopy(self.rows))

    def append(self, key, value):
        self.remember()
        self.rows.append([len(self.rows), key, value, True, False])
        return len(self.rows) - 1

    def standing(self):
        return [row for row in self.rows if row[3]]

    def purge(self, a, b):
        self.remember()
        inside = [row for row in self.standing() if a <= row[0] <= b]
        fresh = 0
        for row in inside:
            if any(other[0] > row[0] and other[1] == row[1] for other in inside) and not row[4]:
                row[4] = True
                fresh += 1
        return fresh

    def sweep(self, drop):
        self.remember()
        before = len(self.standing())
        for row in self.rows:
            if row[4]:
                row[3:] = [False, False]
        if drop:
            for row in self.standing():
                # The only standing record of its key has no earlier one, and is the newest.
                if row[2] is None and not any(other[1] == row[1] and other is not row for other in self.standing()):
                    row[3] = False
        return before - len(self.standing())

    def back(self, count):
        for _ in range(count):
            self.rows = self.past.pop()

    def read(self, key, offset):
        found = [row[2] for row in self.standing() if row[1] == key and row[0] <= offset]
        return found[-1] if found else None

    def current(self):
        found = {row[1]: row[2] for row in self.standing()}
        return [(key, found[key]) for key in sorted(found) if found[key] is not None]
