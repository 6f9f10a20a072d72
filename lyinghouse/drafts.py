"""Drafts of blocks: so all that has to be looked at is looked at before the first block is added."""


class Draft:
    """A block that is still to be added: drafts may stand in its plan where names of blocks will stand."""

    def __init__(self, plan):
        self.plan = plan


def body_of(bag, ref):
    """The body behind a reference: the plan of a draft, or the body of the block with this name."""
    return ref.plan if isinstance(ref, Draft) else bag.body(ref)


def settled(bag, name, part):
    """The same with a name of a block for each draft in it, all of which are added, as blocks of this name."""
    if isinstance(part, Draft):
        body = settled(bag, name, part.plan)
        return bag.add(name, body)
    if isinstance(part, tuple):
        return tuple([settled(bag, name, inner) for inner in part])
    return part
