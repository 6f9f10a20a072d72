"""Keeps: rows of values on a disc, none of which is ever half there.

Each half of the disc is an area: a head, and behind it the rows, one behind the other. Of both areas that one counts
whose head tells the later generation; if neither has a head, as on a new disc, it is the first one, of generation 0.
In an area all rows from the first one on count whose heads tell its generation. So it is always one sector text, the
last one written, that makes one more row count, or other rows.
"""

from lyinghouse.checks import check_number
from lyinghouse.discs import FENCE, MOST_SECTORS, is_image, new_image, written
from lyinghouse.errors import BadImage, BadValue, BadValues, TooFull
from lyinghouse.sectors import (
    OF_AREA, OF_VALUE, area_head, generation_in, latest_in, many_tails, tails_of, value_at, value_head,
)
from lyinghouse.values import is_value, known_text

FEWEST_SECTORS = 16


class Keep:
    """A keep: at first without rows, on a new disc with so many sectors."""

    def __init__(self, sectors):
        check_number(sectors, FEWEST_SECTORS, MOST_SECTORS)
        self.sectors = sectors
        self.rows = ()
        self.image = new_image(sectors)
        self.steps = ()
        self._start = 0
        self._end = 1
        self._generation = 0
        self._latest = 0

    def __len__(self):
        return len(self.rows)

    def add(self, value):
        """The value is one more row, the last one."""
        if not is_value(value):
            raise BadValue(value)
        text = known_text(value)
        end = self._end + 1 + many_tails(len(text))
        if end > self._start + self._room():
            raise TooFull(self.sectors)
        tails = _tail_steps(self._end, text)
        head = ("write", self._end, value_head(self.image[self._end], self._generation, text))
        self._do((*tails, FENCE, head, FENCE) if len(tails) > 0 else (head, FENCE))
        self.rows = (*self.rows, value)
        self._end = end

    def pack(self, values):
        """The rows are these values from now on, and no others."""
        if not (isinstance(values, tuple) and all([is_value(value) for value in values])):
            raise BadValues(values)
        texts = [known_text(value) for value in values]
        if 1 + sum([1 + many_tails(len(text)) for text in texts]) > self._room():
            raise TooFull(self.sectors)
        start = self._room() - self._start
        # Rows that a cut has left there may tell any generation up to the latest one: none tells this one.
        generation = self._latest + 1
        steps = []
        at = start + 1
        for text in texts:
            steps.append(("write", at, value_head(self.image[at], generation, text)))
            steps.extend(_tail_steps(at, text))
            at += 1 + many_tails(len(text))
        steps.append(FENCE)
        head = ("write", start, area_head(self.image[start], generation))
        self._do((*steps, head, FENCE))
        self.rows = values
        self._start, self._end = start, at
        self._generation = self._latest = generation

    def copy(self):
        """A keep that stands alike, on a disc of its own."""
        other = Keep(self.sectors)
        other.rows, other.image, other.steps = self.rows, self.image, self.steps
        other._start, other._end = self._start, self._end
        other._generation, other._latest = self._generation, self._latest
        return other

    def _room(self):
        """How many sectors an area has."""
        return self.sectors // 2

    def _do(self, steps):
        self.image = written(self.image, steps)
        self.steps = steps


def keep_again(image):
    """The keep on the disc with this image."""
    if not (is_image(image) and len(image) >= FEWEST_SECTORS):
        raise BadImage(image)
    keep = Keep(len(image))
    keep.image = image
    half = len(image) // 2
    starts = (0, half)
    generations = [generation_in(image[start], OF_AREA) for start in starts]
    keep._generation = max(0, generations[0], generations[1])
    keep._start = half if generations[1] > generations[0] else 0
    keep._latest = latest_in(image)
    keep.rows, keep._end = _rows_from(image, keep._start, keep._start + half, keep._generation)
    return keep


def _rows_from(image, start, end, generation):
    """The rows of the area from start to end, and the place behind them."""
    rows = []
    at = start + 1
    while at < end and generation_in(image[at], OF_VALUE) == generation:
        told = value_at(image, at, end)
        if told is None:
            # No keep leaves such a row.
            raise BadImage(image)
        rows.append(told[0])
        at = told[1]
    return tuple(rows), at


def _tail_steps(at, text):
    """The steps that write the tails of the value whose head is to stand at this place."""
    return [("write", at + 1 + number, tail) for number, tail in enumerate(tails_of(text))]
