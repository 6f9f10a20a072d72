"""Scripts of days, read: each line told as a tuple of its words, of which LINE, the last one, may have blanks."""

from lyinghouse.commands import is_line
from lyinghouse.errors import BadDay
from lyinghouse.kinds import is_name, is_names, number_in

MOST_LINES = 200
MOST_SIGNS = 20000
MOST_FALLS = 20
# How many words a line with this first word has.
LENGTHS = {
    "house": 2, "copy": 3, "lead": 3, "type": 3, "amid": 4, "fall": 2, "pack": 2, "meet": 3, "state": 2, "knows": 1,
}


class Cast:
    """The names of the desks and of the houses that are there."""

    def __init__(self):
        self.desks = ()
        self.houses = ()

    def can_stand(self, words):
        """Whether a line with these words can stand here, as any line but the first one."""
        if len(words) != LENGTHS.get(words[0], 0):
            return False
        word, told = words[0], words[1:]
        if word in ("house", "copy"):
            return all([name in self.houses for name in told[:-1]]) and self._is_new(told[-1])
        if word == "lead":
            return told[0] in self.desks and told[1] in self.houses
        if word == "type":
            return told[0] in self.desks and is_line(told[1])
        if word == "amid":
            falls = number_in(told[0])
            return falls is not None and falls <= MOST_FALLS and told[1] in self.desks and is_line(told[2])
        if word in ("fall", "pack"):
            return told[0] in self.desks or told[0] in self.houses
        return all([name in self.desks for name in told]) and (word != "meet" or told[0] < told[1])

    def _is_new(self, name):
        return is_name(name) and name not in self.desks and name not in self.houses


def words_of(text):
    """The words of each line of a script."""
    if not isinstance(text, str) or len(text) > MOST_SIGNS:
        raise BadDay(0)
    rows = [_words_in(line) for line in text.split("\n")]
    cast = Cast()
    for number, words in enumerate(rows):
        if number == 0:
            cast.desks = words[1:]
            can_stand = words[0] == "desks" and is_names(cast.desks)
        else:
            can_stand = number < MOST_LINES and cast.can_stand(words)
        if not can_stand:
            raise BadDay(number + 1)
        if words[0] in ("house", "copy"):
            cast.houses = (*cast.houses, words[-1])
    return rows


def plain_text(text):
    """The text of a script without what nobody sees: without falls and packs."""
    rows = [words for words in words_of(text) if words[0] not in ("fall", "pack")]
    return "\n".join([" ".join(("type", *words[2:]) if words[0] == "amid" else words) for words in rows])


def _words_in(line):
    """The words of a line; the line of a shell at its end is one of them."""
    first = line.split(" ", 1)[0]
    if first in ("type", "amid"):
        return tuple(line.split(" ", LENGTHS[first] - 1))
    return tuple(line.split(" "))
