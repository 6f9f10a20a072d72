"""Desks that do deeds at houses, and meanwhile fall as often as somebody likes."""

from lyinghouse.deeds import DONE
from lyinghouse.desk import desk_again
from lyinghouse.discs import SECTOR, left_behind, open_numbers


class Visit:
    """A desk at a house; at none if the house is None. It falls in each of its calls, until it fell so many times."""

    def __init__(self, desk, house, falls):
        self.desk = desk
        self.falls = falls
        self._house = house

    def done(self, deed):
        """Leads the desk until its deed is done, it waits, or is cheated: what it told; "nowhere" if at no house."""
        if self._house is None:
            return ("nowhere",)
        made = self.desk.made
        told = ("say", None)
        while told[0] == "say":
            told = self._step(deed, made)
        return told

    def _step(self, deed, made):
        """The next call of the desk; made is what it had made last ahead of the deed."""
        desk = self.desk
        if desk.is_cheated:
            return ("cheated",)
        if desk.doing is None and desk.made != made:
            # The answer was lost in a fall, but what was made was done. Of all else it can be asked for again.
            return "done", DONE
        image = desk.image
        if desk.doing is None:
            told = ("say", desk.ask(deed))
        else:
            told = desk.hear(self._house.hear(desk.name, desk.rest()))
        if self.falls == 0:
            return told
        self._fall(image)
        return "say", None

    def _fall(self, image):
        """The desk falls in its last call, ahead of which its disc had this image, and comes back."""
        steps = self.desk.steps
        # Any steps will do: these are not the same ones each time.
        cut = steps[:self.falls * 7 % (len(steps) + 1)]
        many = len(open_numbers(cut))
        choices = tuple([(self.falls * 31 + at * 17) % (SECTOR + 1) for at in range(many)])
        self.falls -= 1
        self.desk = desk_again(left_behind(image, cut, choices), self.desk.room)
