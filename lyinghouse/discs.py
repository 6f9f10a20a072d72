"""Discs: rows of sectors, what is done with them, and what is left of that if power is lost."""

from lyinghouse.checks import check_number
from lyinghouse.errors import BadChoices, BadImage, BadSteps
from lyinghouse.kinds import is_clean, is_integer

SECTOR = 64
MOST_SECTORS = 20000
FENCE = ("fence",)


def is_image(value):
    """Whether any value is the image of a disc."""
    if not (isinstance(value, tuple) and 1 <= len(value) <= MOST_SECTORS):
        return False
    if not all([isinstance(text, str) and len(text) == SECTOR for text in value]):
        return False
    # All at once: an image is looked at behind each fall, and has many sectors.
    return is_clean("".join(value))


def new_image(sectors):
    """The image of a disc with so many sectors, all of whose signs are blanks."""
    check_number(sectors, 1, MOST_SECTORS)
    return (" " * SECTOR,) * sectors


def done_steps(image, steps):
    """The image behind all these steps, nothing being lost."""
    _check_steps(image, steps)
    return written(image, steps)


def open_writes(image, steps):
    """The numbers of the writes behind the last fence."""
    _check_steps(image, steps)
    return tuple(open_numbers(steps))


def left_by(image, steps, choices):
    """The image that is left if power is lost behind these steps, so many signs of each open write being there."""
    _check_steps(image, steps)
    if not _are_choices(choices, len(open_numbers(steps))):
        raise BadChoices(choices)
    return left_behind(image, steps, choices)


def left_behind(image, steps, choices):
    """The same, for what are known to be steps for this image, and such choices."""
    numbers = open_numbers(steps)
    first = numbers[0] if len(numbers) > 0 else len(steps)
    sectors = list(written(image, steps[:first]))
    for number, many in zip(numbers, choices):
        _, sector, text = steps[number]
        sectors[sector] = text[:many] + sectors[sector][many:]
    return tuple(sectors)


def written(image, steps):
    """The image behind what are known to be steps for it."""
    sectors = list(image)
    for step in steps:
        if step != FENCE:
            sectors[step[1]] = step[2]
    return tuple(sectors)


def _is_sector_text(value):
    return isinstance(value, str) and len(value) == SECTOR and is_clean(value)


def _check_steps(image, steps):
    if not is_image(image):
        raise BadImage(image)
    if not isinstance(steps, tuple):
        raise BadSteps(None)
    fresh = {}
    for number, step in enumerate(steps):
        if not _is_step(step, len(image)):
            raise BadSteps(number)
        if step == FENCE:
            fresh = {}
        elif step[1] in fresh:
            raise BadSteps(number)
        else:
            fresh[step[1]] = True


def _is_step(value, sectors):
    """Whether any value is a step for a disc with so many sectors."""
    if not (isinstance(value, tuple) and len(value) in (1, 3) and isinstance(value[0], str)):
        return False
    if len(value) == 1:
        return value == FENCE
    return value[0] == "write" and is_integer(value[1], 0, sectors - 1) and _is_sector_text(value[2])


def open_numbers(steps):
    """The numbers of the writes behind the last fence, for what are known to be steps."""
    numbers = []
    for number, step in enumerate(steps):
        if step == FENCE:
            numbers = []
        else:
            numbers.append(number)
    return numbers


def _are_choices(value, many):
    if not (isinstance(value, tuple) and len(value) == many):
        return False
    return all([is_integer(part, 0, SECTOR) for part in value])
