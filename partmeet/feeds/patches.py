"""Patches: what leads from one view to another (points [82] and [83])."""

from partmeet.data.keys import value_order

REGISTER_PART = "register"
COUNTER_PART = "counter"
MEMBERS_PART = "members"
TEXT_PART = "text"


def patch_of(old, new):
    """Return the patch that leads from an old view to a new one."""
    old_heads, old_sum, old_members, old_line = old
    new_heads, new_sum, new_members, new_line = new
    parts = [
        (REGISTER_PART, dots_alone(old_heads, new_heads), pairs_alone(new_heads, old_heads)),
        (COUNTER_PART, new_sum - old_sum),
        (MEMBERS_PART, values_alone(old_members, new_members), values_alone(new_members, old_members)),
        (TEXT_PART, dots_alone(old_line, new_line), places_that_came(new_line, old_line)),
    ]
    return tuple([part for part in parts if any(part[1:])])


def pairs_alone(pairs, others):
    """Return the pairs whose dots are not those of the other ones."""
    dots = {dot: True for dot, _ in others}
    return tuple([pair for pair in pairs if pair[0] not in dots])


def dots_alone(pairs, others):
    """Return the dots of the pairs, without those of the other ones."""
    return tuple([dot for dot, _ in pairs_alone(pairs, others)])


def values_alone(values, others):
    """Return the values that are not among the other ones."""
    known = {value: True for value in others}
    return tuple([value for value in values if value not in known])


def places_that_came(new, old):
    """Return triples (after, dot, sign) for the places of a new line that the old one does not have."""
    known = {dot: True for dot, _ in old}
    came = []
    after = None
    for dot, sign in new:
        if dot not in known:
            came.append((after, dot, sign))
        after = dot
    return tuple(came)


def apply_patch(patch, view):
    """Return the view behind applying a patch that leads from this view."""
    heads, number, members, line = view
    for part in patch:
        if part[0] == REGISTER_PART:
            heads = heads_behind(heads, part[1], part[2])
        elif part[0] == COUNTER_PART:
            number += part[1]
        elif part[0] == MEMBERS_PART:
            members = tuple(value_order(list(values_alone(members, part[1]) + part[2])))
        else:
            line = line_behind(line, part[1], part[2])
    return (heads, number, members, line)


def without(pairs, gone):
    """Return a list of the pairs without those with the dots that go."""
    dots = {dot: True for dot in gone}
    return [pair for pair in pairs if pair[0] not in dots]


def heads_behind(heads, gone, came):
    """Return the heads behind a patch, in the order of dots."""
    return tuple(sorted(without(heads, gone) + list(came), key=lambda pair: pair[0]))


def line_behind(line, gone, came):
    """Return the line behind a patch."""
    # For each place, None being the beginning, the pair that stands directly behind it: so a place comes in without
    # moving all that stand behind it.
    following = {}
    last = None
    for pair in without(line, gone):
        following[last] = pair
        last = pair[0]
    following[last] = None
    for after, dot, sign in came:
        following[dot] = following[after]
        following[after] = (dot, sign)
    return tuple(row_from(following))


def row_from(following):
    """Return the list of all pairs, one behind another, of a dict that tells what follows each place."""
    row = []
    pair = following[None]
    while pair is not None:
        row.append(pair)
        pair = following[pair[0]]
    return row
