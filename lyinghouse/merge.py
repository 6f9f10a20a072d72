"""Trees of desks that were parted, brought together by what they have at each path.

What is told at a path is None if nothing is there, FOLDER, or the text of the file as a tuple of one string. Files that
have several paths are taken as files of their own at each of them.
"""

from lyinghouse.deeds import MOST_ENTRIES
from lyinghouse.errors import Full
from lyinghouse.plain import PlainTree, parts_of, path_of

FOLDER = ()
ASIDE = "aside"


def unlike(one, other):
    """All paths at which both trees do not have the same things told."""
    mine, its = _told_in(one), _told_in(other)
    paths = sorted(set(list(mine) + list(its)))
    return tuple([path for path in paths if mine.get(path, None) != its.get(path, None)])


def merged(base, one, other):
    """The tree that keeps the changes of both, and where they clashed."""
    old, mine, its = _told_in(base), _told_in(one), _told_in(other)
    chosen, clashing = _choice(old, mine, its)
    folder = _name_aside(chosen)
    clashes, texts = [], []
    for path in sorted(list(clashing)):
        sides = mine.get(path, None), its.get(path, None)
        aside = _laid_aside(sides, chosen[path])
        places = [path_of((folder, str(len(texts) + number))) for number in range(len(aside))]
        texts.extend(aside)
        clashes.append((path, _clash_word(sides), tuple(places)))
    return _built(chosen, folder, texts), tuple(clashes)


def _told_in(tree):
    """What is told at each path of the tree at which something is."""
    told = {}
    for path in tree.paths():
        is_folder = tree.answer(("look", path))[0] == "folder"
        told[path] = FOLDER if is_folder else tree.answer(("read", path))[1:]
    return told


def _choice(old, mine, its):
    """What is chosen at each path at which something is, and the paths at which both sides clash."""
    chosen, clashing = {}, {}
    for path in sorted(set(list(old) + list(mine) + list(its))):
        ahead, one, other = old.get(path, None), mine.get(path, None), its.get(path, None)
        if one == other or ahead == other:
            told = one
        elif ahead == one:
            told = other
        else:
            told = _stronger(one, other)
            clashing[path] = True
        if told is not None:
            chosen[path] = told
    for path in list(chosen):
        for above in _above(path):
            if chosen.get(above, None) != FOLDER:
                chosen[above] = FOLDER
                clashing[above] = True
    return chosen, clashing


def _stronger(one, other):
    """What is chosen if both sides have changed what was there, and not alike."""
    if FOLDER in (one, other):
        return FOLDER
    if one is None or other is None:
        return other if one is None else one
    return max(one, other)


def _above(path):
    """The paths of the folders in which the path lies, but for the root."""
    parts = parts_of(path)
    return [path_of(parts[:many]) for many in range(1, len(parts))]


def _name_aside(chosen):
    """The name of the folder for the texts that are laid aside."""
    name, number = ASIDE, 0
    while path_of((name,)) in chosen:
        number += 1
        name = f"{ASIDE}.{number}"
    return name


def _laid_aside(sides, chosen):
    """The texts, ascending, of the files of both sides at a path at which something else is chosen."""
    return sorted(set([told[0] for told in sides if told is not None and told != FOLDER and told != chosen]))


def _clash_word(sides):
    if None in sides:
        return "gone"
    return "kinds" if FOLDER in sides else "texts"


def _built(chosen, folder, texts):
    """The tree of what is chosen, and the texts that are laid aside in this folder."""
    many = len(chosen) + (1 + len(texts) if len(texts) > 0 else 0)
    if many > MOST_ENTRIES:
        raise Full(many)
    tree = PlainTree()
    for path in sorted(list(chosen)):
        told = chosen[path]
        tree.done(("make", path) if told == FOLDER else ("write", path, told[0]))
    if len(texts) > 0:
        tree.done(("make", path_of((folder,))))
    for number, text in enumerate(texts):
        tree.done(("write", path_of((folder, str(number))), text))
    return tree
