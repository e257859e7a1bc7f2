"""Bases and their data (points [35] and [39])."""

from partmeet.data.keys import is_key, is_sign, is_value, is_whole, value_order
from partmeet.data.vectors import NO_VECTOR, is_dot, is_vector, knows
from partmeet.errors import Malformed


class Base:
    """The values that folded events mean."""

    def __init__(self):
        """Make a new base, into which nothing was folded."""
        self.vector = NO_VECTOR
        self.height = 0
        self.registers = {}
        self.counters = {}
        self.sets = {}
        self.texts = {}

    def fork(self):
        """Return a new base with the same contents."""
        twin = Base()
        twin.vector = self.vector
        twin.height = self.height
        twin.registers = {key: list(self.registers[key]) for key in self.registers}
        twin.counters = {key: self.counters[key] for key in self.counters}
        twin.sets = {key: list(self.sets[key]) for key in self.sets}
        twin.texts = {key: list(self.texts[key]) for key in self.texts}
        return twin

    def as_data(self):
        """Return the data of the base."""
        counters = tuple([(key, self.counters[key]) for key in sorted(self.counters)])
        registers, sets, texts = [rows_as_data(rows) for rows in (self.registers, self.sets, self.texts)]
        return (self.vector, self.height, registers, counters, sets, texts)


def rows_as_data(rows_by_key):
    """Return a dict of lists as a tuple of pairs, keys ascending."""
    return tuple([(key, tuple(rows_by_key[key])) for key in sorted(rows_by_key)])


def base_of(data):
    """Return the base whose data these are. Raises Malformed if there is none."""
    if not is_base_data(data):
        raise Malformed("the data are those of no base")
    vector, height, registers, counters, sets, texts = data
    base = Base()
    base.vector = vector
    base.height = height
    base.registers = {key: list(rows) for key, rows in registers}
    base.counters = {key: number for key, number in counters}
    base.sets = {key: list(rows) for key, rows in sets}
    base.texts = {key: list(rows) for key, rows in texts}
    return base


def is_base_data(data):
    """Return True if data are those of a base."""
    if not isinstance(data, tuple) or len(data) != 6:
        return False
    vector, height, registers, counters, sets, texts = data
    if not is_vector(vector) or not is_whole(height) or height < 0 or (height == 0) != (vector == NO_VECTOR):
        return False
    if not all([is_table(table) for table in (registers, counters, sets, texts)]):
        return False
    if not all([is_register(rows, vector) for key, rows in registers]):
        return False
    if not all([is_whole(number) and number != 0 for key, number in counters]):
        return False
    return all([is_member_row(rows) for key, rows in sets]) and all([is_shown_row(rows, vector) for key, rows in texts])


def is_table(table):
    """Return True if data is a tuple of pairs that begin with keys, ascending."""
    if not isinstance(table, tuple) or not all([is_pair(row) and is_key(row[0]) for row in table]):
        return False
    return all([row[0] < later[0] for row, later in zip(table, table[1:])])


def is_pair(data):
    """Return True if data is a tuple of two."""
    return isinstance(data, tuple) and len(data) == 2


def is_dotted_row(rows, vector):
    """Return True if data is a tuple, not empty, of pairs that begin with dots that the vector has."""
    if not isinstance(rows, tuple) or len(rows) == 0:
        return False
    return all([is_pair(row) and is_dot(row[0]) and knows(vector, row[0]) for row in rows])


def is_register(rows, vector):
    """Return True if data tell a register: pairs (dot, value), dots ascending."""
    if not is_dotted_row(rows, vector) or not all([is_value(value) for dot, value in rows]):
        return False
    return all([row[0] < later[0] for row, later in zip(rows, rows[1:])])


def is_shown_row(rows, vector):
    """Return True if data tell a text: pairs (dot, sign), no dot twice."""
    if not is_dotted_row(rows, vector) or not all([is_sign(sign) for dot, sign in rows]):
        return False
    return len({dot for dot, sign in rows}) == len(rows)


def is_member_row(rows):
    """Return True if data tell members: values in their order, each once."""
    if not isinstance(rows, tuple) or len(rows) == 0 or not all([is_value(value) for value in rows]):
        return False
    return list(rows) == value_order(rows)
