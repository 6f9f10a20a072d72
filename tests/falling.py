"""What falls leave of a disc."""

from lyinghouse.discs import left_by, open_writes


def cuts(steps):
    """All beginnings of the steps."""
    return [steps[:many] for many in range(len(steps) + 1)]


def some_choices(many, chance):
    """How many signs may be there of each of so many open writes: the ends, some that are alike, some that are not."""
    if many == 0:
        return [()]
    if many == 1:
        return [(number,) for number in range(65)]
    alike = [(number,) * many for number in (0, 1, 13, 63, 64)]
    # Of writes behind one another any may be there, and any may not.
    either = [tuple(chance.choice((0, 64)) for _ in range(many)) for _ in range(6)]
    return alike + either + [tuple(chance.randrange(65) for _ in range(many)) for _ in range(6)]


def all_left(image, steps, chance):
    """Images that a cut in these steps can leave, each with whether all steps were done."""
    for cut in cuts(steps):
        for choices in some_choices(len(open_writes(image, cut)), chance):
            yield left_by(image, cut, choices), len(cut) == len(steps)


def one_left(image, steps, chance):
    """One image that a cut in these steps can leave, and whether all steps were done."""
    cut = steps[:chance.randrange(len(steps) + 1)]
    many = len(open_writes(image, cut))
    choices = tuple(chance.choice((0, 64, chance.randrange(65))) for _ in range(many))
    return left_by(image, cut, choices), len(cut) == len(steps)
