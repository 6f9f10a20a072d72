"""The things of a tree as they lie in the blocks of a bag.

The body of a root is (things, unused, many): a map from the number of each thing to what is told of it, a number
from which on no thing has one, and how many entries there are. Of a folder (FOLDER, entries) is told, a map from
its names to the numbers of things; of a file (FILE, text, links): its text, and how many entries it has.
"""

from lyinghouse.drafts import Draft, settled
from lyinghouse.nodes import blocks_in, drop_in, put_in, row_in, rows_in, size_in
from lyinghouse.pages import changed, signs_in, text_blocks, text_in
from lyinghouse.things import ROOT

FOLDER = 0
FILE = 1


class LaidThings:
    """The things of one tree: they are looked at as far as that is needed, and changed in drafts.

    Deeds go by these methods as by those of Things.
    """

    def __init__(self, bag, body):
        self._bag = bag
        self._body = body
        self._things, self._unused, self._many = body
        # What was looked up already: a deed goes along the same entries several times.
        self._known = {}
        self._entered = {}

    def is_folder(self, thing):
        """Whether it is a folder, and no file."""
        return self._told(thing)[0] == FOLDER

    def inside(self, folder, name):
        """The thing of this entry of the folder; None if it has no such entry."""
        if (folder, name) not in self._entered:
            row = row_in(self._bag, self._entries(folder), name)
            self._entered[(folder, name)] = None if row is None else row[1]
        return self._entered[(folder, name)]

    def many_entries(self):
        """How many entries there are in all folders."""
        return self._many

    def many_names(self, folder):
        """How many entries the folder has."""
        return size_in(self._bag, self._entries(folder))

    def names_of(self, folder):
        """The names in the folder, ascending."""
        return tuple([row[0] for row in rows_in(self._bag, self._entries(folder))])

    def many_links(self, file):
        """How many entries the file has."""
        return self._told(file)[2]

    def length_of(self, file):
        """How many signs the text of the file has."""
        return self._text(file)[1]

    def signs_of(self, file, at, many):
        """The signs of the text of the file from the place at on, at most so many."""
        return signs_in(self._bag, self._text(file), at, many)

    def new_folder(self):
        """A folder that has no entry yet, and is that of none."""
        return self._new_thing((FOLDER, None))

    def new_file(self):
        """A file with the empty text that is that of no entry yet."""
        return self._new_thing((FILE, None, 0))

    def rewrite(self, file, length, at, signs):
        """The text of the file has so many signs, these ones from the place at on, and else is as before."""
        text = changed(self._bag, self._text(file), length, at, signs)
        self._tell(file, (FILE, text, self.many_links(file)))

    def enter(self, folder, name, thing):
        """The thing has an entry of this name in the folder."""
        self._put_entry(folder, name, thing)
        self._many += 1
        if not self.is_folder(thing):
            self._tell(thing, (FILE, self._told(thing)[1], self.many_links(thing) + 1))

    def leave(self, folder, name):
        """The entry of this name is no longer in the folder; its thing is gone if it has no other one."""
        thing = self.inside(folder, name)
        self._drop_entry(folder, name)
        self._many -= 1
        if self.is_folder(thing) or self.many_links(thing) == 1:
            self._things = drop_in(self._bag, self._things, thing)
            self._known = {}
        else:
            self._tell(thing, (FILE, self._told(thing)[1], self.many_links(thing) - 1))

    def shift(self, folder, name, other, new):
        """The entry of this name in the folder is one with the new name in the other folder."""
        thing = self.inside(folder, name)
        self._drop_entry(folder, name)
        self._put_entry(other, new, thing)

    def all_blocks(self):
        """The names of the blocks in which the things lie, each once or more often."""
        found = blocks_in(self._bag, self._things)
        for thing, told in rows_in(self._bag, self._things):
            if told[0] == FOLDER:
                found.extend(blocks_in(self._bag, told[1]))
            else:
                found.extend(text_blocks(self._bag, self._text(thing)))
        return found

    def settle(self, name):
        """The root of these things: None if they are as they were, otherwise new blocks of this name."""
        body = (self._things, self._unused, self._many)
        return None if body == self._body else settled(self._bag, name, Draft(body))

    def _told(self, thing):
        if thing not in self._known:
            self._known[thing] = row_in(self._bag, self._things, thing)[1]
        return self._known[thing]

    def _tell(self, thing, told):
        self._things = put_in(self._bag, self._things, thing, told)
        self._known[thing] = told

    def _entries(self, folder):
        return self._told(folder)[1]

    def _text(self, file):
        return text_in(self._bag, self._told(file)[1])

    def _put_entry(self, folder, name, thing):
        self._entered = {}
        self._tell(folder, (FOLDER, put_in(self._bag, self._entries(folder), name, thing)))

    def _drop_entry(self, folder, name):
        self._entered = {}
        self._tell(folder, (FOLDER, drop_in(self._bag, self._entries(folder), name)))

    def _new_thing(self, told):
        number = self._unused
        self._unused = number + 1
        self._tell(number, told)
        return number


def new_things(bag):
    """The things of a tree without entries, none of which lies in a block yet."""
    things = LaidThings(bag, (None, ROOT, 0))
    things.new_folder()
    return things
