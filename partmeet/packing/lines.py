"""Packable data, their lines and their packs (points [17] and [18])."""

from partmeet.data.keys import TEXT_SIGNS, is_whole_within
from partmeet.errors import Malformed

MOST_DEPTH = 30
MOST_INTEGER = 10 ** 18

# As many as MOST_INTEGER has. A longer number is refused unread: Python itself refuses to read very long ones.
MOST_DIGITS = 19


def pack(data):
    """Return the pack of packable data, a list of octets."""
    return [ord(sign) for sign in line_for(data)]


def line_for(data):
    """Return the line of packable data."""
    if data is None:
        return "~"
    if isinstance(data, int):
        return "#" + str(data) + ";"
    if isinstance(data, str):
        return "'" + str(len(data)) + ":" + data
    return "(" + "".join([line_for(item) for item in data]) + ")"


def unpack(octets):
    """Return the data whose pack the octets are. Raises Malformed if there is none."""
    line = signs_of(octets)
    data, end = read_data(line, 0, 0)
    if end != len(line):
        raise Malformed("something stands behind the data")
    return data


def signs_of(octets):
    """Return the text whose codes the octets are."""
    signs = {ord(sign): sign for sign in TEXT_SIGNS}
    for octet in octets:
        if octet not in signs:
            raise Malformed("an octet is the code of no character of a text")
    return "".join([signs[octet] for octet in octets])


def read_data(line, at, depth):
    """Return the data whose line begins at a place within so many tuples, and the place behind it."""
    mark = line[at:at + 1]
    if mark == "~":
        return None, at + 1
    if mark == "#":
        return read_integer(line, at + 1)
    if mark == "'":
        return read_text(line, at + 1)
    if mark != "(":
        raise Malformed("no data begin where some should")
    if depth >= MOST_DEPTH:
        raise Malformed("too many tuples lie one in another")
    return read_tuple(line, at + 1, depth + 1)


def read_integer(line, at):
    """Return the integer whose digits begin at a place, and the place behind it."""
    number, end = read_up_to(line, at, ";")
    digits = number.removeprefix("-")
    if not is_plain_number(digits) or number == "-0":
        raise Malformed("an integer is not told by its digits")
    if not is_whole_within(int(number), MOST_INTEGER):
        raise Malformed("an integer is out of its bounds")
    return int(number), end


def read_text(line, at):
    """Return the text whose length begins at a place, and the place behind it."""
    digits, begin = read_up_to(line, at, ":")
    if not is_plain_number(digits):
        raise Malformed("the length of a text is not told by its digits")
    end = begin + int(digits)
    if end > len(line):
        raise Malformed("a text is shorter than it tells")
    return line[begin:end], end


def read_tuple(line, at, depth):
    """Return the tuple whose items begin at a place, and the place behind it."""
    items = []
    while line[at:at + 1] != ")":
        item, at = read_data(line, at, depth)
        items.append(item)
    return tuple(items), at + 1


def read_up_to(line, at, mark):
    """Return what stands from a place on ahead of the next mark, and the place behind that mark."""
    end = line.find(mark, at)
    if end < 0:
        raise Malformed("a number does not end")
    return line[at:end], end + 1


def is_plain_number(digits):
    """Return True if a text is decimal digits without zeros ahead, and not too many."""
    if not digits.isdigit() or len(digits) > MOST_DIGITS:
        return False
    return digits == "0" or not digits.startswith("0")
