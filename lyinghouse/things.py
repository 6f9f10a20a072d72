"""The folders and files of a plain tree, and how one goes along the entries of any tree."""

ROOT = 0


class Things:
    """The folders and files of one tree: at first the root alone, without entries.

    folders leads from each folder to its names and the things at them, texts from each file to
    its text. Things are numbers: so two entries of one file are not two files with equal texts.
    """

    def __init__(self):
        self.folders = {ROOT: {}}
        self.texts = {}
        self.unused = ROOT + 1

    def is_folder(self, thing):
        """Whether it is a folder, and no file."""
        return thing in self.folders

    def inside(self, folder, name):
        """The thing of this entry of the folder; None if it has no such entry."""
        return self.folders[folder].get(name, None)

    def many_entries(self):
        """How many entries there are in all folders."""
        return sum([len(names) for names in self.folders.values()])

    def many_names(self, folder):
        """How many entries the folder has."""
        return len(self.folders[folder])

    def names_of(self, folder):
        """The names in the folder, ascending."""
        return tuple(sorted(list(self.folders[folder])))

    def many_links(self, file):
        """How many entries the file has."""
        return sum([list(names.values()).count(file) for names in self.folders.values()])

    def length_of(self, file):
        """How many signs the text of the file has."""
        return len(self.texts[file])

    def signs_of(self, file, at, many):
        """The signs of the text of the file from the place at on, at most so many."""
        return self.texts[file][at:at + many]

    def new_folder(self):
        """A folder that has no entry yet, and is that of none."""
        folder = self._new_thing()
        self.folders[folder] = {}
        return folder

    def new_file(self):
        """A file with the empty text that is that of no entry yet."""
        file = self._new_thing()
        self.texts[file] = ""
        return file

    def rewrite(self, file, length, at, signs):
        """The text of the file has so many signs, these ones from the place at on, and else is as before."""
        old = self.texts[file]
        self.texts[file] = (old[:at] + signs + old[at + len(signs):])[:length]

    def enter(self, folder, name, thing):
        """The thing has an entry of this name in the folder."""
        self.folders[folder][name] = thing

    def leave(self, folder, name):
        """The entry of this name is no longer in the folder; its thing is gone if it has no other one."""
        thing = self.inside(folder, name)
        del self.folders[folder][name]
        if self.is_folder(thing):
            del self.folders[thing]
        elif self.many_links(thing) == 0:
            del self.texts[thing]

    def shift(self, folder, name, other, new):
        """The entry of this name in the folder is one with the new name in the other folder."""
        thing = self.inside(folder, name)
        del self.folders[folder][name]
        self.folders[other][new] = thing

    def _new_thing(self):
        number = self.unused
        self.unused = number + 1
        return number


def copied(things):
    """Things that are alike, and change by themselves."""
    other = Things()
    other.folders = {folder: dict(names) for folder, names in things.folders.items()}
    other.texts = dict(things.texts)
    other.unused = things.unused
    return other


def names_in(path):
    """The entry names in what is known to be a path."""
    return () if path == "/" else tuple(path[1:].split("/"))


def walk(things, names):
    """Where one comes to by these names, and ""; or None, and the word why one cannot go on."""
    at = ROOT
    for name in names:
        if not things.is_folder(at):
            return None, "file"
        at = things.inside(at, name)
        if at is None:
            return None, "missing"
    return at, ""


def thing_at(things, path):
    """The thing at the path; None if there is none."""
    return walk(things, names_in(path))[0]


def entries_of(things):
    """The path and the thing of each entry of a plain tree, ascending by paths."""
    rows = []
    # A list of what is still to be gone through: folders can lie 200 deep.
    ahead = [("", ROOT)]
    while len(ahead) > 0:
        path, folder = ahead.pop()
        for name, thing in things.folders[folder].items():
            rows.append((f"{path}/{name}", thing))
            if thing in things.folders:
                ahead.append((f"{path}/{name}", thing))
    return sorted(rows)
