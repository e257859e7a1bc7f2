"""Clients (point [61])."""

from partmeet.data.vectors import NO_VECTOR, covers, joined


class Client:
    """Somebody who asks sites, and whose token tells all that it has seen or written."""

    def __init__(self):
        """Make a new client, who has seen nothing."""
        self.token = NO_VECTOR

    def may_ask(self, vector):
        """Return True if a site with this vector may answer the client."""
        return covers(vector, self.token)

    def saw(self, vector):
        """A site with this vector answered."""
        self.token = joined(self.token, vector)
