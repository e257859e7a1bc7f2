"""Keys, values and signs, and the order of values (point [13])."""

KEY_SIGNS = 8
VALUE_SIGNS = 20
MOST_VALUE = 10 ** 15

# The characters of a text, in the order of their codes: from the space to the tilde, without the percent sign.
TEXT_SIGNS = " !\"#$&'()*+,-./0123456789:;<=>?@ABCDEFGHIJKLMNOPQRSTUVWXYZ[\\]^_`abcdefghijklmnopqrstuvwxyz{|}~"
NAME_SIGNS = "abcdefghijklmnopqrstuvwxyz0123456789"


def is_whole(data):
    """Return True if data is an integer; a truth value is none."""
    return isinstance(data, int) and not isinstance(data, bool)


def is_whole_within(data, most):
    """Return True if data is an integer whose size is at most the given one."""
    return is_whole(data) and -most <= data <= most


def is_text(data):
    """Return True if data is a text (point [4])."""
    return isinstance(data, str) and all([sign in TEXT_SIGNS for sign in data])


def is_key(data):
    """Return True if data is a key."""
    return isinstance(data, str) and 1 <= len(data) <= KEY_SIGNS and all([sign in NAME_SIGNS for sign in data])


def is_value(data):
    """Return True if data is a value."""
    return is_whole_within(data, MOST_VALUE) or (is_text(data) and len(data) <= VALUE_SIGNS)


def is_sign(data):
    """Return True if data is a sign."""
    return is_text(data) and len(data) == 1


def value_order(values):
    """Return the values in their order, each once."""
    # Integers and texts cannot be compared with one another, so each kind is sorted alone.
    integers = sorted({value for value in values if isinstance(value, int)})
    texts = sorted({value for value in values if isinstance(value, str)})
    return integers + texts
