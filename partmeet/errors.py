"""The errors of the package (point [6])."""


class MeetError(ValueError):
    """The base of all error classes of the package."""


class Malformed(MeetError):
    """Octets or data do not tell what they should."""


class OutOfRange(MeetError):
    """A number, a word or a key is not allowed."""


class NotOp(MeetError):
    """Data is no operation of clients."""


class NoPlace(MeetError):
    """A place is not shown at the site."""


class Retired(MeetError):
    """The site knows that it is retired."""


class NoMessage(MeetError):
    """There is no such message."""


class LinkCut(MeetError):
    """The link of a message is cut."""


class NoSite(MeetError):
    """There is no such site."""


class Absent(MeetError):
    """The site has not begun."""


class SiteDown(MeetError):
    """The site is down."""


class SiteUp(MeetError):
    """The site is up."""


class SiteGone(MeetError):
    """The site is lost for good."""


class StillThere(MeetError):
    """The site is not lost for good."""


class NotReady(MeetError):
    """Another site may not be handed anything yet."""


class NoClient(MeetError):
    """There is no such client."""


class Behind(MeetError):
    """The site does not know what the client has seen."""
