"""The judge of events: their first fault (point [90])."""

from partmeet.data.events import dot_of, height_of, is_event, op_of, past_has, seen_of
from partmeet.data.vectors import NO_VECTOR, SITES, covers, joined, raised
from partmeet.meaning.texts import line_of


def fault_of_events(events):
    """Return the first fault of a list of events, a pair (word, place), or None."""
    fault = first_fault_alone(events)
    if fault is not None:
        return fault
    begun = beginnings_of(events)
    roots = roots_of(events)
    erasers = erasers_of(events)
    for at, event in enumerate(events):
        word = fault_of_past(event, begun)
        if word is None and names_hidden_place(event, roots, erasers):
            word = "place"
        if word is not None:
            return (word, at)
    return None


def first_fault_alone(events):
    """Return the first fault that asks for no past: "strange" or "double"; None if there is none."""
    dots = {}
    for at, event in enumerate(events):
        if not is_event(event):
            return ("strange", at)
        if dot_of(event) in dots:
            return ("double", at)
        dots[dot_of(event)] = True
    return None


def beginnings_of(events):
    """Return for each site a list: at n stands what its first n events saw, and their greatest height.

    The list of a site goes on as far as none of its events is missing.
    """
    # The past of an event is made of such beginnings, one for each site, so it is never gone through again.
    by_dot = {dot_of(event): event for event in events}
    return [beginnings_at(by_dot, site) for site in range(SITES)]


def beginnings_at(by_dot, site):
    """Return the list of one site (see `beginnings_of`)."""
    begun = [(NO_VECTOR, 0)]
    while (site, len(begun)) in by_dot:
        event = by_dot[(site, len(begun))]
        saw, height = begun[-1]
        begun.append((joined(saw, seen_of(event)), max(height, height_of(event))))
    return begun


def fault_of_past(event, begun):
    """Return the first of "open", "blind" and "height" that applies to an event, or None."""
    seen = seen_of(event)
    if any([seen[site] >= len(begun[site]) for site in range(SITES)]):
        return "open"
    past = [begun[site][seen[site]] for site in range(SITES)]
    if not all([covers(seen, saw) for saw, height in past]):
        return "blind"
    if height_of(event) != 1 + max([height for saw, height in past]):
        return "height"
    return None


def roots_of(events):
    """Return a dict: for each (key, place) the least vector that has the place and all that it hangs below.

    The place belongs to the tree that a past means if the vector of the past covers this one.
    """
    inserts = {}
    afters = {}
    for event in events:
        op = op_of(event)
        if op[0] == "insert":
            inserts.setdefault(op[1], []).append(event)
            afters[dot_of(event)] = op[2]
    roots = {}
    for key in inserts:
        # In the line each place comes behind the one that it hangs below.
        for dot in line_of(inserts[key], key):
            above = roots.get((key, afters[dot]), NO_VECTOR)
            roots[(key, dot)] = joined(above, raised(NO_VECTOR, dot))
    return roots


def erasers_of(events):
    """Return a dict: for each (key, place) that is erased the dots of the events that do so."""
    erasers = {}
    for event in events:
        op = op_of(event)
        if op[0] == "erase":
            erasers.setdefault((op[1], op[2]), []).append(dot_of(event))
    return erasers


def names_hidden_place(event, roots, erasers):
    """Return True if an event names a place that its past does not show.

    The past is closed then: the event is neither "open" nor "blind".
    """
    op = op_of(event)
    if op[0] not in ("insert", "erase") or op[2] is None:
        return False
    place = (op[1], op[2])
    if place not in roots or not covers(seen_of(event), roots[place]):
        return True
    return any([past_has(event, dot) for dot in erasers.get(place, [])])
