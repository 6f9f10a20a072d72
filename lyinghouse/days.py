"""Days: scripts of what is done at desks and houses, and what is shown of it."""

from lyinghouse.desk import Desk, desk_again
from lyinghouse.errors import DayOver, NoName
from lyinghouse.house import House, house_again
from lyinghouse.known import knowing
from lyinghouse.plain import PlainTree
from lyinghouse.rows import no_counts, with_one_less
from lyinghouse.scripts import plain_text, words_of
from lyinghouse.shell import Shell
from lyinghouse.visits import Visit

# With so much room TooFull is never raised in a day of which anything is specified.
DESK_SECTORS = 2000
HOUSE_SECTORS = 6000
ROOM = 10000
# What is shown if a line is left, by what its deed ends in.
LEFT = {"nowhere": "nowhere", "wait": "waits", "cheated": "cheated"}


class Day:
    """A day: at first none of its lines is done."""

    def __init__(self, text):
        self._rows = words_of(text)
        self._script = text
        self.at = 0
        self.names = ()
        self.houses = ()
        self._desk_of = {}
        self._shell_of = {}
        self._house_of = {}
        # The name of the house to which each desk was led; None if it was led to none.
        self._led = {}
        # Counts tell rows, and so trees, whosever they are.
        self._trees = {}
        self._events = []

    @property
    def text(self):
        """The text of the script."""
        return self._script

    def go_on(self):
        """Does the next line. Returns the lines that are shown."""
        if self.at == len(self._rows):
            raise DayOver(len(self._rows))
        word, *told = self._rows[self.at]
        self.at += 1
        if word == "type":
            return self._type(told[0], told[1], 0)
        if word == "amid":
            return self._type(told[1], told[2], int(told[0]))
        if word == "meet":
            return self._meet(told[0], told[1])
        if word == "state":
            return self._state(told[0])
        if word == "knows":
            knows = [name for name, _ in knowing(self.names, tuple(self._events))]
            return (" ".join(["knows", *knows]),)
        self._do(word, told)
        return ()

    def counts_of(self, name):
        """The counts of the desk or the house with this name."""
        if not (isinstance(name, str) and (name in self._desk_of or name in self._house_of)):
            raise NoName(name)
        return self._desk_of[name].counts if name in self._desk_of else self._house_of[name].counts

    def tree_of(self, name):
        """The tree of the desk or the house with this name."""
        return self._trees[self.counts_of(name)].copy()

    def _do(self, word, told):
        """Does a line of which nothing is shown."""
        if word == "desks":
            self._begin(tuple(told))
        elif word == "lead":
            self._led[told[0]] = told[1]
        elif word == "fall":
            self._fall(told[0])
        elif word == "pack":
            self._pack(told[0])
        else:
            new = House(self.names, HOUSE_SECTORS) if word == "house" else self._house_of[told[0]].copy()
            self._house_of[told[-1]] = new
            self.houses = tuple(sorted(list(self._house_of)))

    def _begin(self, names):
        self.names = names
        self._trees[no_counts(names)] = PlainTree()
        for name in names:
            self._desk_of[name] = Desk(name, names, ROOM, DESK_SECTORS)
            self._shell_of[name] = Shell()
            self._led[name] = None

    def _fall(self, name):
        if name in self._desk_of:
            self._desk_of[name] = desk_again(self._desk_of[name].image, ROOM)
        else:
            self._house_of[name] = house_again(self._house_of[name].image)

    def _pack(self, name):
        if name in self._desk_of:
            self._desk_of[name].pack()
        else:
            self._house_of[name].pack()

    def _type(self, name, line, falls):
        """The line is typed at the shell of the desk, which falls so many times meanwhile."""
        if self._desk_of[name].is_cheated:
            return (f"{name}: cheated",)
        before = self.counts_of(name)
        lines = self._work(name, line, falls)
        if self.counts_of(name) != before:
            self._events.append(("goes", name, self.counts_of(name)))
        return lines

    def _work(self, name, line, falls):
        """Works the line through, or leaves it: the lines that are shown."""
        shell, ahead = self._shell_of[name].copy(), self._desk_of[name].image
        visit = Visit(self._desk_of[name], self._house_of.get(self._led[name], None), falls)
        told = shell.line(line)
        while told[0] == "wants":
            end = visit.done(told[1])
            self._desk_of[name] = visit.desk
            if end[0] == "wait":
                # What it began is as if it had not been asked for: nothing of it is at the house.
                self._desk_of[name] = desk_again(ahead, ROOM)
            if end[0] != "done":
                return (f"{name}: {LEFT[end[0]]}",)
            self._note_made(visit.desk)
            told = shell.hear(end[1])
        self._shell_of[name] = shell
        return tuple([f"{name}| {shown}" for shown in told[1]])

    def _note_made(self, desk):
        """Notes the tree behind what the desk made last, if it was not noted yet."""
        if desk.made is None or desk.made[1] in self._trees:
            return
        _, counts, deed = desk.made
        tree = self._trees[with_one_less(counts, self.names.index(desk.name))].copy()
        tree.done(deed)
        self._trees[counts] = tree

    def _meet(self, name, other_name):
        one, other = self._desk_of[name], self._desk_of[other_name]
        word = one.meet(other.counts)
        other.meet(one.counts)
        self._events.append(("meets", name, other_name))
        return (f"{name} {other_name}: {word}",)

    def _state(self, name):
        desk = self._desk_of[name]
        counts = " ".join([str(count) for count in desk.counts])
        house = "nowhere" if self._led[name] is None else self._led[name]
        cheated = " cheated" if desk.is_cheated else ""
        return (f"{name}: {counts} at {house} in {self._shell_of[name].place}{cheated}",)


def day_report(text):
    """All lines that are shown in the day."""
    day = Day(text)
    lines = []
    for _ in text.split("\n"):
        lines.extend(day.go_on())
    return tuple(lines)


def plain_day(text):
    """The text of the script without its falls and packs."""
    return plain_text(text)
