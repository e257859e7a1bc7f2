"""A disk with two areas (points [21] to [26])."""

from partmeet.errors import Malformed
from partmeet.packing.frames import frame, whole_frames
from partmeet.packing.lines import pack, unpack

HEAD_WORD = "area"


class Disk:
    """Two areas, each a row of octets, of which one is the current one."""

    def __init__(self):
        """Make an empty disk."""
        self._areas = [[], []]
        self._current = 0
        self._synced = 0
        self._turn = 0

    def append(self, payload):
        """Put the frame of a payload behind the current area."""
        self._areas[self._current].extend(frame(payload))

    def sync(self):
        """Make all octets synced."""
        self._synced = len(self._areas[self._current])

    def renew(self, payload):
        """Begin the other area with a head of the next turn and a payload; what it had is lost."""
        self._current = 1 - self._current
        self._turn += 1
        self._areas[self._current] = frame(pack((HEAD_WORD, self._turn))) + frame(payload)
        # What was current is the other area now, and the other one counts as synced by itself.
        self._synced = 0

    def crash(self, count):
        """Lose the octets that are not synced, but for the first ones, as many as the count tells; then read."""
        area = self._areas[self._current]
        self._areas[self._current] = area[:self._synced + count]
        self._read()

    def _read(self):
        """Find the current area again; keep its whole frames alone."""
        found = [whole_frames(area) for area in self._areas]
        turns = [turn_of(payloads) for payloads, taken in found]
        self._current = 1 if turns[1] > turns[0] else 0
        self._turn = turns[self._current]
        self._synced = found[self._current][1]
        area = self._areas[self._current][:self._synced]
        self._areas = [[], []]
        self._areas[self._current] = area

    def payloads(self):
        """Return the payloads of the current area, without its head, in order."""
        payloads, _ = whole_frames(self._areas[self._current])
        return payloads[1:] if self._turn > 0 else payloads

    def unsynced(self):
        """Return the number of the octets of the current area that are not synced."""
        return len(self._areas[self._current]) - self._synced

    def turn(self):
        """Return the turn of the current area, 0 if it has none."""
        return self._turn

    def images(self):
        """Return the octets of the current area and those of the other one, each a list."""
        return list(self._areas[self._current]), list(self._areas[1 - self._current])

    def fork(self):
        """Return a new disk in the same state."""
        twin = Disk()
        twin._areas = [list(area) for area in self._areas]
        twin._current = self._current
        twin._synced = self._synced
        twin._turn = self._turn
        return twin


def turn_of(payloads):
    """Return the turn that an area with these payloads has when it is read, 0 if it cannot become current by one."""
    # A head that has no whole frame behind it was torn in a renewing.
    if len(payloads) < 2:
        return 0
    return turn_told_by(payloads[0])


def turn_told_by(payload):
    """Return the turn that a head tells, 0 if the payload is no head."""
    try:
        data = unpack(payload)
    except Malformed:
        return 0
    if not isinstance(data, tuple) or len(data) != 2 or data[0] != HEAD_WORD:
        return 0
    return data[1] if isinstance(data[1], int) and data[1] >= 1 else 0
