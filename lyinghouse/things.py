"""The folders and files of a plain tree, and how one goes along their entries."""

ROOT = 0


class Things:
    """The folders and files of one tree: at first the root alone, without entries.

    folders leads from each folder to its names and the things at them, texts from each file to
    its text. Things are numbers: so two entries of one file are not two files with equal texts.
    """

    def __init__(self):
        self.folders = {ROOT: {}}
        self.texts = {}
        self.unused = ROOT + 1


def copied(things):
    """Things that are alike, and change by themselves."""
    other = Things()
    other.folders = {folder: dict(names) for folder, names in things.folders.items()}
    other.texts = dict(things.texts)
    other.unused = things.unused
    return other


def new_thing(things):
    """The number of a new thing."""
    number = things.unused
    things.unused = number + 1
    return number


def names_in(path):
    """The entry names in what is known to be a path."""
    return () if path == "/" else tuple(path[1:].split("/"))


def walk(things, names):
    """Where one comes to by these names, and ""; or None, and the word why one cannot go on."""
    at = ROOT
    for name in names:
        if at not in things.folders:
            return None, "file"
        if name not in things.folders[at]:
            return None, "missing"
        at = things.folders[at][name]
    return at, ""


def thing_at(things, path):
    """The thing at the path; None if there is none."""
    return walk(things, names_in(path))[0]


def text_at(things, path):
    """The text of the file at the path."""
    return things.texts[thing_at(things, path)]


def enter(things, path, thing):
    """The thing has an entry at the path, in a folder that is there."""
    names = names_in(path)
    folder = walk(things, names[:-1])[0]
    things.folders[folder][names[-1]] = thing


def leave(things, path):
    """The entry at the path is no longer there."""
    names = names_in(path)
    folder = walk(things, names[:-1])[0]
    del things.folders[folder][names[-1]]


def many_entries(things):
    """How many entries there are."""
    return sum([len(names) for names in things.folders.values()])


def many_links(things, thing):
    """How many entries the thing has."""
    return sum([list(names.values()).count(thing) for names in things.folders.values()])


def entries_of(things):
    """The path and the thing of each entry, ascending by paths."""
    rows = []
    # A list of what is still to be gone through: folders can lie 200 deep.
    ahead = [("", ROOT)]
    while len(ahead) > 0:
        path, folder = ahead.pop()
        for name, thing in things.folders[folder].items():
            rows.append((f"{path}/{name}", thing))
            if thing in things.folders:
                ahead.append((f"{path}/{name}", thing))
    return sorted(rows)
