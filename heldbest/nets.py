"""The net between the houses."""

from heldbest.errors import NoLetter
from heldbest.limits import MOST_LETTERS


class Net:
    """The letters that are under way, in the order in which they were sent."""

    def __init__(self):
        self._letters = []

    @property
    def letters(self):
        """The letters."""
        return tuple(self._letters)

    def __iter__(self):
        return iter(self._letters)

    def send(self, letter):
        """Put the letter behind the others; False if it is lost since the net is full."""
        if len(self._letters) == MOST_LETTERS:
            return False
        self._letters.append(tuple(letter))
        return True

    def take_out(self, at):
        """Take the letter out, and tell it."""
        letter = self.at(at)
        self._letters.pop(at)
        return letter

    def copied(self):
        """A new net with the same letters."""
        net = Net()
        net._letters = list(self._letters)
        return net

    def at(self, at):
        """The letter of this number."""
        if at < 0 or at >= len(self._letters):
            raise NoLetter(at)
        return self._letters[at]
