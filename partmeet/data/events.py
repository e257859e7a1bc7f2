"""Operations and events (points [15] and [16])."""

from partmeet.data.keys import is_key, is_sign, is_value, is_whole, is_whole_within
from partmeet.data.vectors import is_dot, is_site, is_vector, knows

MOST_NUMBER = 10 ** 9

# The first words of the operations of clients.
CLIENT_WORDS = ("set", "inc", "add", "remove", "insert", "erase")


def is_client_op(data):
    """Return True if data is an operation of clients."""
    if not isinstance(data, tuple) or len(data) < 3 or not is_key(data[1]):
        return False
    word = data[0]
    if word == "insert":
        return len(data) == 4 and (data[2] is None or is_dot(data[2])) and is_sign(data[3])
    if len(data) != 3:
        return False
    if word == "inc":
        return is_whole_within(data[2], MOST_NUMBER)
    if word == "erase":
        return is_dot(data[2])
    return word in ("set", "add", "remove") and is_value(data[2])


def is_row_of_sites(data):
    """Return True if data is a tuple of different sites, ascending, perhaps empty."""
    if not isinstance(data, tuple) or not all([is_site(site) for site in data]):
        return False
    return all([site < later for site, later in zip(data, data[1:])])


def is_plan_op(data):
    """Return True if data is an operation that tells of sites that come or are lost."""
    if not isinstance(data, tuple) or len(data) < 2:
        return False
    word = data[0]
    if word == "retire":
        return len(data) == 3 and is_site(data[1]) and is_row_of_sites(data[2]) and data[1] not in data[2]
    if len(data) != 2:
        return False
    if word == "ack":
        return is_row_of_sites(data[1]) and len(data[1]) > 0
    return word in ("admit", "begin") and is_site(data[1])


def is_op(data):
    """Return True if data is an operation."""
    return is_client_op(data) or is_plan_op(data)


def is_event(data):
    """Return True if data is an event, as far as it can be told without other events."""
    if not isinstance(data, tuple) or len(data) != 5:
        return False
    site, n, seen, height, op = data
    if not is_dot((site, n)) or not is_vector(seen) or seen[site] != n - 1:
        return False
    return is_whole(height) and height >= 1 and is_op(op)


def dot_of(event):
    """Return the dot of an event."""
    return (event[0], event[1])


def seen_of(event):
    """Return the vector that the writer of an event knew."""
    return event[2]


def height_of(event):
    """Return the height of an event."""
    return event[3]


def op_of(event):
    """Return the operation of an event."""
    return event[4]


def past_has(event, dot):
    """Return True if the past of an event has the dot."""
    return knows(seen_of(event), dot)


def events_with(events, word, key):
    """Return the events whose operation begins with the word and the key, in their order."""
    return [event for event in events if op_of(event)[:2] == (word, key)]
