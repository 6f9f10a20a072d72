"""Trees whose blocks are lost: what can still be come to by listing, from the root on, is saved."""

from lyinghouse.checks import check_name
from lyinghouse.deeds import MOST_ENTRIES, MOST_SIGNS, is_change
from lyinghouse.errors import BadDeed, BadRoots, NoBlock
from lyinghouse.kinds import is_block
from lyinghouse.laid import LaidThings
from lyinghouse.plain import PlainTree, is_deed
from lyinghouse.things import ROOT
from lyinghouse.trees import tree_blocks, tree_do, tree_new, tree_of

MOST_ELDERS = 20
# Deeds that only ask make no blocks: so any name does for them.
NOBODY = "nobody"


class NotedBag:
    """The blocks of a bag, and the names of those that were looked at."""

    def __init__(self, bag):
        self.noted = {}
        self._bag = bag

    def body(self, block):
        """The body of a block that the bag holds."""
        self.noted[block] = True
        return self._bag.body(block)


class Finds:
    """What is found of one tree in a bag.

    saved leads from each saved path to its thing, folders ahead of what is in them; lost has the lost paths.
    """

    def __init__(self, bag, root):
        self.saved = {}
        self.lost = []
        self._things = None
        try:
            self._things = LaidThings(bag, bag.body(root))
            ahead = self._found("/", ROOT)
        except NoBlock:
            self.lost.append("/")
            ahead = []
        # A list of what is still to be gone through: folders can lie 200 deep.
        while len(ahead) > 0:
            path, thing = ahead.pop()
            try:
                ahead.extend(self._found(path, thing))
            except NoBlock:
                self.lost.append(path)

    def is_folder(self, path):
        """Whether a folder is at this saved path."""
        return self._things.is_folder(self.saved[path])

    def text_at(self, path):
        """The text of the file at this saved path."""
        return self._things.signs_of(self.saved[path], 0, MOST_SIGNS)

    def paths_at(self, path):
        """This saved path, and all those below it, ascending."""
        return sorted([other for other in self.saved if other == path or other.startswith(path + "/")])

    def _found(self, path, thing):
        """Notes the path as saved, if all can be asked of its thing; the paths and the things of its entries."""
        entries = []
        if self._things.is_folder(thing):
            names = self._things.names_of(thing)
            above = "" if path == "/" else path
            entries = [(f"{above}/{name}", self._things.inside(thing, name)) for name in names]
        else:
            self._things.signs_of(thing, 0, MOST_SIGNS)
        self.saved[path] = thing
        return entries


def needs(bag, root, deed):
    """The names of all blocks that tree_do needs for a deed that asks."""
    if not is_deed(deed) or is_change(deed):
        raise BadDeed(deed)
    noted = NotedBag(bag)
    tree_do(noted, NOBODY, root, deed)
    return tuple(sorted(list(noted.noted)))


def lacks(bag, root):
    """The name of any block in which the tree lies, and that the bag does not hold; None if there is none."""
    try:
        tree_blocks(bag, root)
    except NoBlock as error:
        return error.value
    return None


def saved_paths(bag, root):
    """All saved paths."""
    return tuple(sorted(list(Finds(bag, root).saved)))


def lost_paths(bag, root):
    """All lost paths."""
    return tuple(sorted(Finds(bag, root).lost))


def mended(bag, name, root):
    """A root of the tree that has just what is saved; the same root if nothing is lost."""
    check_name(name)
    finds = Finds(bag, root)
    return root if finds.lost == [] else tree_of(bag, name, _saved_tree(finds))


def mended_by(bag, name, root, elders):
    """As mended, and each lost path is taken from the first of the elder trees in which it is saved."""
    check_name(name)
    if not (isinstance(elders, tuple) and len(elders) <= MOST_ELDERS and all([is_block(elder) for elder in elders])):
        raise BadRoots(elders)
    finds = Finds(bag, root)
    if finds.lost == []:
        return root
    if finds.lost == ["/"]:
        return _mended_elder(bag, name, elders)
    plain = _saved_tree(finds)
    _give_lost(plain, sorted(finds.lost), [Finds(bag, elder) for elder in elders])
    return tree_of(bag, name, plain)


def _mended_elder(bag, name, elders):
    """What mended tells of the first elder tree of which anything is saved; the tree without entries if none is."""
    for elder in elders:
        if Finds(bag, elder).lost != ["/"]:
            return mended(bag, name, elder)
    return tree_new(bag, name)


def _saved_tree(finds):
    plain = PlainTree()
    firsts = {}
    for path in sorted(list(finds.saved)):
        if path != "/":
            _enter(plain, finds, path, firsts)
    return plain


def _give_lost(plain, lost, elders):
    """Enters at each of these lost paths what the first of the elders gives that has it."""
    firsts = [{} for _ in elders]
    many = len(plain.paths())
    for path in lost:
        at = _place_of_giver(elders, path)
        given = [] if at is None else elders[at].paths_at(path)
        if many + len(given) <= MOST_ENTRIES:
            many += len(given)
            for other in given:
                _enter(plain, elders[at], other, firsts[at])


def _place_of_giver(elders, path):
    """The place of the first of the elders in which this path is saved; None if there is none."""
    for at, finds in enumerate(elders):
        if path in finds.saved:
            return at
    return None


def _enter(plain, finds, path, firsts):
    """Enters the thing at this saved path; firsts leads from each file to the path at which it was entered first."""
    thing = finds.saved[path]
    if finds.is_folder(path):
        plain.done(("make", path))
    elif thing in firsts:
        plain.done(("link", firsts[thing], path))
    else:
        firsts[thing] = path
        plain.done(("write", path, finds.text_at(path)))
