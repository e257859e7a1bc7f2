"""Messages on their way, and links that are cut (point [69])."""

from partmeet.errors import LinkCut, NoMessage


class Mail:
    """The messages that are on their way, by their numbers."""

    def __init__(self):
        """Begin without messages; no link is cut."""
        self._next = 0
        self._messages = {}
        self._cut_links = {}

    def put(self, sender, receiver, body):
        """Send a message; return its number."""
        number = self._next
        self._next += 1
        self._messages[number] = (sender, receiver, body)
        return number

    def look(self, number):
        """Return the sender, the receiver and the body of a message. Raises NoMessage."""
        if number not in self._messages:
            raise NoMessage("no message with this number is on its way")
        return self._messages[number]

    def lose(self, number):
        """Let a message be on its way no more. Raises NoMessage."""
        self.look(number)
        self._messages.pop(number)

    def double(self, number):
        """Send a message like another one; return its number. Raises NoMessage."""
        sender, receiver, body = self.look(number)
        return self.put(sender, receiver, body)

    def check_link(self, number):
        """Raise NoMessage if there is no such message, LinkCut if its link is cut."""
        sender, receiver, _ = self.look(number)
        if (sender, receiver) in self._cut_links:
            raise LinkCut("the link of the message is cut")

    def cut(self, sender, receiver):
        """Cut a link, whatever it was."""
        self._cut_links[(sender, receiver)] = True

    def heal(self, sender, receiver):
        """Let a link be there, whatever it was."""
        self._cut_links.pop((sender, receiver), None)

    def numbers(self):
        """Return the numbers of all messages, ascending."""
        return sorted(self._messages)

    def cut_links(self):
        """Return the pairs (sender, receiver) of all links that are cut, ascending."""
        return sorted(self._cut_links)
