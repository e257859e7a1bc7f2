"""The twin of a world: its faults, and whether it is at rest (points [73] to [75])."""

from partmeet.base.folding import by_key
from partmeet.data.vectors import knows
from partmeet.meaning.texts import places_of, text_of
from partmeet.meaning.values import counter_of, heads_of, members_of, register_of
from partmeet.world.world import WORDS, answer_at


def events_of(world, vector):
    """Return the events that a vector has, of those that a world has noted, by their dots."""
    return noted_in(world.written, vector)


def noted_in(written, vector):
    """Return the events that a vector has, of those of a dict by dots, by their dots."""
    return [written[dot] for dot in sorted(written) if knows(vector, dot)]


def meant(events, word, key):
    """Return what a closed list of events means for one of the words that a site can be asked."""
    if word == "register":
        return register_of(events, key)
    if word == "heads":
        return heads_of(events, key)
    if word == "counter":
        return counter_of(events, key)
    if word == "members":
        return members_of(events, key)
    if word == "text":
        return text_of(events, key)
    return places_of(events, key)


def fault_of_site(site, events, keys_asked):
    """Return the first (word, key) for which a site answers otherwise than events mean, or None."""
    # What a key means depends on the events that name it, so no other ones are gone through for each word.
    told = by_key(events)
    for key in keys_asked:
        for word in WORDS:
            if answer_at(site, word, key) != meant(told.get(key, []), word, key):
                return (word, key)
    return None


def fault_among(stations, written):
    """Return the first fault (site, word, key) of stations beside noted events, a dict by dots, or None."""
    keys_asked = sorted(by_key(list(written.values())))
    for station in sorted(stations, key=lambda one: one.number):
        if station.state == "up":
            site = station.site
            fault = fault_of_site(site, noted_in(written, site.vector), keys_asked)
            if fault is not None:
                return (station.number,) + fault
    return None


def fault_of_world(world):
    """Return the first fault (site, word, key) of a world, or None."""
    return fault_among(world.stations, world.written)


def is_at_rest(world):
    """Return True if all sites that are up have one vector and equal bases, and hold and await no event."""
    sites = [station.site for station in world.stations if station.state == "up"]
    if any([len(site.held) > 0 or len(site.waiting) > 0 for site in sites]):
        return False
    bases = [site.base.as_data() for site in sites]
    return all([site.vector == sites[0].vector for site in sites]) and all([data == bases[0] for data in bases])
