"""Desks: they go by rows of statements, which a house hands on and may lie about."""

from lyinghouse.bag import Bag
from lyinghouse.checks import check_number
from lyinghouse.deeds import DONE, is_change
from lyinghouse.discs import MOST_SECTORS
from lyinghouse.errors import (
    BadCounts, BadDeed, BadImage, BadName, BadNames, BadValue, Busy, Cheated, NoBlock, NotOpen, TooFull,
)
from lyinghouse.keeps import Keep, keep_again
from lyinghouse.kinds import are_counts, is_names
from lyinghouse.messages import (
    FREED, KEPT, NEWEST, NO_BLOCK, ON_BLOCK, ON_FREE, ON_KEEP, ON_NEWEST, ON_TURN, WAIT, base_told, block_told,
)
from lyinghouse.plain import is_deed
from lyinghouse.rows import greater_counts, sides_of, with_one_more
from lyinghouse.standing import Standing, standing_in
from lyinghouse.trees import tree_do, tree_new
from lyinghouse.values import is_value

FEWEST_ROOM = 40
MOST_ROOM = 10000
FEWEST_SECTORS = 200


class Errand:
    """How far a desk has come with its open deed. It is lost in a fall, and begun anew then.

    stage tells the answer that is needed, message what asks for it. The deed is worked out on base, the counts and
    the root of a statement that was told as the newest one; has_turn is whether it was told with the turn.
    may_wait is whether a house may have the desk among those who wait for a turn. block is the one that is fetched,
    lacked the base of which a block was not to be had, so that the newest statement was asked for again; told is the
    answer to the deed, while the desk only waits to be free of its turn.
    """

    def __init__(self, stage, message, may_wait):
        self.stage = stage
        self.message = message
        self.may_wait = may_wait
        self.base = None
        self.has_turn = False
        self.lacked = None
        self.block = None
        self.told = None


class Desk:
    """A desk: at first its row is empty, and so is its tree."""

    def __init__(self, name, names, room, sectors):
        if not is_names(names):
            raise BadNames(names)
        if not (isinstance(name, str) and name in names):
            raise BadName(name)
        check_number(room, FEWEST_ROOM, MOST_ROOM)
        check_number(sectors, FEWEST_SECTORS, MOST_SECTORS)
        self.name = name
        self.names = names
        self.room = room
        keep = Keep(sectors)
        standing = Standing(name, names)
        keep.add(standing.row())
        self.stand_on(keep, standing)

    def ask(self, deed):
        """The deed is open from now on. Returns the message that is to be said."""
        if self.is_cheated:
            raise Cheated(None)
        if self.doing is not None:
            raise Busy(self.doing)
        if not is_deed(deed):
            raise BadDeed(deed)
        standing = self._standing.copy()
        standing.doing = deed
        self._write(standing)
        self._errand = Errand(ON_NEWEST, NEWEST, False)
        self.steps = self._did
        return self.rest()

    def hear(self, answer):
        """What is to be done now that the house has given this answer."""
        if self.doing is None:
            raise NotOpen(answer)
        if not is_value(answer):
            raise BadValue(answer)
        self._did = ()
        told = self._heard(answer)
        self.held = len(self._bag)
        self.steps = self._did
        return told

    def rest(self):
        """The message that is to be said for the open deed; None if none is open."""
        return None if self._errand is None else self._errand.message

    def meet(self, counts):
        """How the desk's counts lie to those of another one, of which it hears here."""
        own = self._standing.own()
        if not (are_counts(counts, len(self.names)) and counts[own] <= self.counts[own]):
            raise BadCounts(counts)
        self._did = ()
        word = sides_of(self.counts, counts)
        if word == "parted" and not self.is_cheated:
            self._find_cheated()
        if word == "behind" and not self.is_cheated:
            self._raise_floor(counts)
        self.held = len(self._bag)
        self.steps = self._did
        return word

    def pack(self):
        """The disc is laid anew, with what the desk needs alone, if there is room for that."""
        self._did = ()
        try:
            self._keep.pack((self._standing.row(),))
            self._did = self._keep.steps
        except TooFull:
            self._did = ()
        self.image = self._keep.image
        self.steps = self._did

    def stand_on(self, keep, standing):
        """Stands as what lies in the keep tells, with no block at hand."""
        self._keep = keep
        self._bag = Bag()
        self._errand = _errand_again(standing)
        self._did = keep.steps
        self._show(standing)
        self.held = 0
        self.steps = self._did

    def _show(self, standing):
        self._standing = standing
        self.counts = standing.counts
        self.doing = standing.doing
        self.made = standing.made
        self.is_cheated = standing.is_cheated
        self.image = self._keep.image

    def _write(self, standing):
        """Stands so from now on, once it lies on the disc. Whoever calls this changes nothing ahead of it."""
        # Only the last row is ever needed: so there is one alone, and little to be read behind a fall.
        self._keep.pack((standing.row(),))
        self._did = self._keep.steps
        self._show(standing)

    def _heard(self, answer):
        stage = self._errand.stage
        if stage == ON_BLOCK:
            return self._hear_block(answer)
        if stage == ON_TURN:
            return self._hear_turn(answer)
        if stage == ON_FREE:
            return self._hear_freed(answer)
        if stage == ON_KEEP:
            return self._hear_kept(answer)
        base = base_told(self.names, ON_NEWEST, answer)
        return self._wait() if base is None else self._go_by(base, False)

    def _hear_block(self, answer):
        errand = self._errand
        if answer == NO_BLOCK:
            return self._hear_lack()
        seal = block_told(errand.block, answer)
        if seal is None:
            return self._wait()
        self._bag.take(seal)
        try:
            return self._work(errand.base, errand.has_turn)
        except TooFull:
            self._bag.let_go(errand.block)
            raise

    def _hear_lack(self):
        """The house may have packed, and keep another statement by now; if it still tells this one, the desk waits."""
        errand = self._errand
        if errand.lacked == errand.base:
            return self._begin_anew()
        again = Errand(ON_NEWEST, NEWEST, errand.may_wait)
        again.lacked = errand.base
        return self._say(again, None)

    def _hear_turn(self, answer):
        base = base_told(self.names, ON_TURN, answer)
        if base is not None:
            return self._go_by(base, True)
        base = base_told(self.names, ON_NEWEST, answer)
        if base is not None and not self._is_beginning_of(base[0]):
            return self._find_cheated()
        is_below = base is not None and not self._is_at_floor(base[0])
        # All else is no answer to what was said last, but perhaps one to what was said ahead of it.
        return self._begin_anew() if answer == WAIT or is_below else self._wait()

    def _hear_freed(self, answer):
        if answer != FREED:
            return self._wait()
        return self._finish(self._errand.base[0], self._errand.told)

    def _hear_kept(self, answer):
        if answer == KEPT:
            return self._finish(self.counts, DONE)
        base = base_told(self.names, ON_NEWEST, answer)
        if base is None or with_one_more(base[0], self._standing.own()) == self.counts:
            return self._wait()
        if not self._is_beginning_of(base[0]):
            return self._find_cheated()
        # A statement that stands on the own one tells as well that this one is kept.
        return self._finish(self.counts, DONE)

    def _is_beginning_of(self, counts):
        """Whether the desk's row is the beginning of the one with these counts, as far as houses can be right."""
        own = self._standing.own()
        return counts[own] == self.counts[own] and sides_of(self.counts, counts) in ("alike", "behind")

    def _go_by(self, base, has_turn):
        """Works the deed out on what was told as the newest statement, if the desk may go over to it."""
        if not self._is_beginning_of(base[0]):
            return self._find_cheated()
        if not self._is_at_floor(base[0]):
            return self._begin_anew()
        return self._work(base, has_turn)

    def _is_at_floor(self, counts):
        return sides_of(counts, self._standing.floor) in ("alike", "ahead")

    def _work(self, base, has_turn):
        """Works the deed out on this base; what is to be done then."""
        trial = self._bag
        counts, root = base
        if root is None or is_change(self.doing):
            # What is made on trial may come to nothing.
            trial = trial.copy()
            trial.skip_to(self.name, self._standing.number)
        if root is None:
            root = tree_new(trial, self.name)
        try:
            answer, new = tree_do(trial, self.name, root, self.doing)
        except NoBlock as error:
            return self._fetch(base, has_turn, error.value)
        if new == root:
            return self._answered(base, answer)
        if has_turn:
            return self._state(counts, new, trial)
        message = (ON_TURN, greater_counts(self.counts, self._standing.floor), self._standing.turn)
        return self._say(Errand(ON_TURN, message, True), base)

    def _fetch(self, base, has_turn, block):
        errand = Errand(ON_BLOCK, (ON_BLOCK, *block), self._errand.may_wait)
        errand.has_turn = has_turn
        errand.block = block
        return self._say(errand, base)

    def _answered(self, base, answer):
        """The deed leaves the tree as it is: nobody has to wait for this desk any more."""
        if not self._errand.may_wait:
            return self._finish(base[0], answer)
        # It lies on the disc ahead of being said: behind a fall the desk may have to ask for a turn again.
        standing = self._standing.copy()
        standing.turn = standing.turn + 1
        self._write(standing)
        errand = Errand(ON_FREE, (ON_FREE, standing.turn), True)
        errand.told = answer
        return self._say(errand, base)

    def _state(self, counts, root, bag):
        """Makes the statement. It lies on the disc, with its blocks, ahead of anything that is said of them."""
        standing = self._standing.copy()
        own = standing.own()
        numbers = range(standing.number, bag.next_number(self.name))
        bodies = tuple([bag.body((self.name, number)) for number in numbers])
        standing.counts = with_one_more(counts, own)
        standing.made = (standing.counts[own], standing.counts, standing.doing)
        standing.number = bag.next_number(self.name)
        standing.unsaid = (root, bodies)
        self._write(standing)
        self._bag = bag
        return self._say(_errand_again(standing), None)

    def _say(self, errand, base):
        errand.base = base
        if errand.lacked is None:
            errand.lacked = self._errand.lacked
        self._errand = errand
        return ("say", errand.message)

    def _wait(self):
        return ("wait", self._errand.message)

    def _begin_anew(self):
        self._errand = Errand(ON_NEWEST, NEWEST, self._errand.may_wait)
        return self._wait()

    def _finish(self, counts, answer):
        """The deed is done: the desk goes by the row with these counts."""
        standing = self._standing.copy()
        standing.counts = counts
        standing.doing = standing.unsaid = None
        self._write(standing)
        self._close()
        return ("done", answer)

    def _find_cheated(self):
        standing = self._standing.copy()
        standing.is_cheated = True
        standing.doing = standing.unsaid = None
        self._write(standing)
        self._close()
        return ("cheated",)

    def _close(self):
        """No deed is open any more: of the blocks at hand the eldest ones go, if they are too many."""
        self._errand = None
        many = max(len(self._bag) - self.room, 0)
        if many > 0:
            eldest = sorted([(number, name) for name, number in self._bag.blocks])[:many]
            for number, name in eldest:
                self._bag.let_go((name, number))

    def _raise_floor(self, counts):
        """From now on the desk goes over to nothing that is somewhere below these counts."""
        standing = self._standing.copy()
        standing.floor = greater_counts(standing.floor, counts)
        if standing.floor == self._standing.floor:
            return
        self._write(standing)
        base = None if self._errand is None else self._errand.base
        if base is not None and not self._is_at_floor(base[0]):
            self._begin_anew()


def desk_again(image, room):
    """The desk that comes back from this image."""
    keep, standing = _read_again(image)
    check_number(room, FEWEST_ROOM, MOST_ROOM)
    desk = Desk(standing.name, standing.names, room, keep.sectors)
    desk.stand_on(keep, standing)
    return desk


def _read_again(image):
    try:
        keep = keep_again(image)
    except BadImage:
        raise BadImage(None) from None
    standing = standing_in(keep.rows[-1]) if len(keep.rows) > 0 else None
    if standing is None or keep.sectors < FEWEST_SECTORS:
        raise BadImage(None)
    return keep, standing


def _errand_again(standing):
    """The errand of a desk that comes back and stands so: its statement, if it has one to say, or the deed anew."""
    if standing.doing is None:
        return None
    if standing.unsaid is not None:
        return Errand(ON_KEEP, (ON_KEEP, standing.statement(), standing.block_seals()), True)
    return Errand(ON_NEWEST, NEWEST, is_change(standing.doing))
