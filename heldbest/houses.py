"""What desks and seekers have in common."""


class House:
    """A desk or a seeker, which comes from era to era."""

    KIND = "house"

    def __init__(self, number, era):
        self.number = number
        self.era = era

    def words(self):
        """The words with which the line of a house that is up begins."""
        return (self.KIND, str(self.number), "up", str(self.era))
