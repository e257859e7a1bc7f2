"""Views: all that there is to see of a key (point [81])."""

from partmeet.base.answers import counter, head_pairs, members, shown_pairs

# The heads, the sum, the members, the line.
EMPTY_VIEW = ((), 0, (), ())


def view_of(base, held, key):
    """Return the view of a key at a base and held events."""
    heads = tuple(head_pairs(base, held, key))
    line = tuple(shown_pairs(base, held, key))
    return (heads, counter(base, held, key), tuple(members(base, held, key)), line)


def text_in(line):
    """Return the text of a line."""
    return "".join([sign for dot, sign in line])
