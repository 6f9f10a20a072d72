"""Trees in the blocks of a bag."""

from lyinghouse.checks import check_name
from lyinghouse.deeds import DONE, MOST_SIGNS, answer_to, do
from lyinghouse.errors import BadDeed, BadPath
from lyinghouse.laid import LaidThings, new_things
from lyinghouse.plain import PlainTree, is_deed, is_path
from lyinghouse.things import ROOT, thing_at


def tree_new(bag, name):
    """A root of the tree without entries."""
    check_name(name)
    return new_things(bag).settle(name)


def tree_do(bag, name, root, deed):
    """The answer to the deed, and a root of the tree behind it."""
    check_name(name)
    if not is_deed(deed):
        raise BadDeed(deed)
    things = _things_of(bag, root)
    answer = answer_to(things, deed)
    if answer != DONE:
        return answer, root
    do(things, deed)
    new = things.settle(name)
    return answer, root if new is None else new


def tree_of(bag, name, plain):
    """A root of a tree that is equal to this plain tree."""
    check_name(name)
    things = new_things(bag)
    for path in plain.paths():
        do(things, _deed_for(plain, path))
    return things.settle(name)


def tree_plain(bag, root):
    """The plain tree that is equal to the tree of root."""
    things = _things_of(bag, root)
    tree = PlainTree()
    firsts = {}
    # A list of what is still to be gone through: folders can lie 200 deep.
    ahead = [("", ROOT)]
    while len(ahead) > 0:
        path, folder = ahead.pop()
        for name in things.names_of(folder):
            here = f"{path}/{name}"
            thing = things.inside(folder, name)
            if things.is_folder(thing):
                tree.done(("make", here))
                ahead.append((here, thing))
            elif thing in firsts:
                tree.done(("link", firsts[thing], here))
            else:
                firsts[thing] = here
                tree.done(("write", here, things.signs_of(thing, 0, MOST_SIGNS)))
    return tree


def tree_thing(bag, root, path):
    """The number of the thing at this path; None if there is none."""
    if not is_path(path):
        raise BadPath(path)
    return thing_at(_things_of(bag, root), path)


def tree_blocks(bag, root):
    """The names of all blocks in which the tree lies, its texts too."""
    found = [root] + _things_of(bag, root).all_blocks()
    for block in found:
        # Some are named by others, and were not needed so far: all of them must be there.
        bag.body(block)
    return tuple(sorted(set(found)))


def tree_many(bag, root):
    """How many entries the tree has."""
    return _things_of(bag, root).many_entries()


def _things_of(bag, root):
    return LaidThings(bag, bag.body(root))


def _deed_for(plain, path):
    """The deed that makes the entry at this path, if those ahead of it are there."""
    if plain.answer(("look", path))[0] == "folder":
        return ("make", path)
    first = plain.links(path)[0]
    if first != path:
        return ("link", first, path)
    return ("write", path, plain.answer(("read", path))[1])
