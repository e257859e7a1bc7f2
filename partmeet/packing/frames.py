"""Frames: rows of octets that tell how long they are, and whether they are whole (points [19] and [20])."""

from itertools import accumulate

MOST_PAYLOAD = 16777215
FRAME_HEAD = 7

LENGTH_OCTETS = 3
CHECK_OCTETS = 4
CHECK_BASE = 65521


def check_of(octets):
    """Return the check of a list of octets."""
    # Behind each octet the first number is 1 more than the sum so far, and the second one is the sum of all these.
    # Remainders that are kept at the end only are the same ones, and a long row is checked much faster.
    first = 1 + sum(octets)
    second = len(octets) + sum(accumulate(octets))
    return first % CHECK_BASE + 65536 * (second % CHECK_BASE)


def frame(payload):
    """Return the frame of a payload, a list of octets."""
    return octets_of(len(payload), LENGTH_OCTETS) + octets_of(check_of(payload), CHECK_OCTETS) + payload


def octets_of(number, many):
    """Return a number as so many octets, the highest first."""
    return [number >> (8 * place) & 255 for place in reversed(range(many))]


def number_of(octets):
    """Return the number that octets tell, the highest first."""
    number = 0
    for octet in octets:
        number = number * 256 + octet
    return number


def whole_frames(octets):
    """Return the payloads of the whole frames of a list of octets, and how many octets these take."""
    payloads = []
    taken = 0
    payload = payload_at(octets, 0)
    while payload is not None:
        payloads.append(payload)
        taken += FRAME_HEAD + len(payload)
        payload = payload_at(octets, taken)
    return payloads, taken


def payload_at(octets, at):
    """Return the payload of the frame that stands whole at a place, or None."""
    begin = at + FRAME_HEAD
    # A length that is torn itself does no harm: the row ends ahead of `begin` then.
    end = begin + number_of(octets[at:at + LENGTH_OCTETS])
    if end > len(octets):
        return None
    payload = octets[begin:end]
    if check_of(payload) != number_of(octets[at + LENGTH_OCTETS:begin]):
        return None
    return payload
