"""Feeds, which tell what changed, and followers (points [86] and [87])."""

from partmeet.data.vectors import NO_VECTOR, covers
from partmeet.errors import Behind
from partmeet.feeds.patches import apply_patch, patch_of
from partmeet.feeds.views import EMPTY_VIEW, view_of


class Feed:
    """Somebody who follows some keys, and what was told last."""

    def __init__(self, names):
        """Follow the keys of a tuple; nothing was told yet."""
        self.names = names
        self.vector_told = NO_VECTOR
        self.views = {key: EMPTY_VIEW for key in names}

    def ask(self, site):
        """Return the pairs (key, patch) for all keys that changed. Raises Behind if the site knows too little."""
        if not covers(site.vector, self.vector_told):
            raise Behind("the site does not know all that was told")
        told = []
        for key in self.names:
            view = view_of(site.base, site.held, key)
            if view != self.views[key]:
                told.append((key, patch_of(self.views[key], view)))
                self.views[key] = view
        self.vector_told = site.vector
        return told

    def as_data(self):
        """Return all of the feed as packable data."""
        return (self.names, self.vector_told, tuple([self.views[key] for key in self.names]))

    def fork(self):
        """Return a new feed in the same state."""
        return feed_of(self.as_data())


def feed_of(data):
    """Return the feed with these data."""
    names, vector_told, views = data
    feed = Feed(names)
    feed.vector_told = vector_told
    feed.views = {key: view for key, view in zip(names, views)}
    return feed


class Follower:
    """Somebody who applies to views what a feed tells."""

    def __init__(self):
        """Know nothing yet."""
        self.views = {}

    def take(self, told):
        """Take what a feed tells, a list of pairs (key, patch)."""
        for key, patch in told:
            self.views[key] = apply_patch(patch, self.view(key))

    def view(self, key):
        """Return the view of a key, the empty one if nothing was told of it."""
        return self.views.get(key, EMPTY_VIEW)
