"""What the calls of a world refuse (point [70])."""

from partmeet.data.keys import is_whole
from partmeet.errors import Absent, NoSite, OutOfRange, SiteDown, SiteGone
from partmeet.knowing.shapes import is_site_of_plan

# For each call what it is passed.
PASSED = {
    "write": ("client", "site", "op"),
    "read": ("client", "site", "word", "key"),
    "say": ("site", "site"),
    "deliver": ("message",),
    "drop": ("message",),
    "double": ("message",),
    "cut": ("site", "site"),
    "heal": ("site", "site"),
    "sync": ("site",),
    "forget": ("site",),
    "crash": ("site", "count"),
    "restart": ("site",),
    "wipe": ("site",),
    "retire": ("site", "site"),
    "admit": ("site", "site"),
    "hand": ("site", "site"),
    "calm": ("rounds",),
}

# All else that a call is passed is told by a number.
NO_NUMBERS = ("op", "word", "key")


def station_at(stations, site):
    """Return the station of a site. Raises NoSite."""
    if not is_site_of_plan(site, len(stations)):
        raise NoSite("there is no such site")
    return stations[site]


def begun_at(stations, site):
    """Return the station of a site that has begun. Raises NoSite, SiteGone, Absent."""
    station = station_at(stations, site)
    if station.state == "gone":
        raise SiteGone("the site is lost for good")
    if station.state == "absent":
        raise Absent("the site has not begun")
    return station


def running_at(stations, site):
    """Return the station of a site that is up. Raises NoSite, SiteGone, Absent, SiteDown."""
    station = begun_at(stations, site)
    if station.state == "down":
        raise SiteDown("the site is down")
    return station


def absent_at(stations, site):
    """Return the station of a site that has not begun. Raises NoSite, OutOfRange."""
    station = station_at(stations, site)
    if station.state != "absent":
        raise OutOfRange("the site is not absent")
    return station


def check_call(call):
    """Raise OutOfRange if a tuple tells no call."""
    if len(call) == 0 or not isinstance(call[0], str) or call[0] not in PASSED:
        raise OutOfRange("there is no such call")
    wanted = PASSED[call[0]]
    passed = call[1:]
    if len(passed) != len(wanted):
        raise OutOfRange("the call is passed too few or too many arguments")
    for kind, argument in zip(wanted, passed):
        if kind not in NO_NUMBERS and (not is_whole(argument) or argument < 0):
            raise OutOfRange("an argument is no number")
