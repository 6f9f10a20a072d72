"""Why a deed is refused, what it changes, and what it asks: all for what is known to be a deed.

The things of the tree are Things, or LaidThings, which lie in blocks and are changed by the same methods.
"""

from lyinghouse.things import names_in, thing_at, walk

MOST_ENTRIES = 200
MOST_SIGNS = 2000
DONE = ("done",)


def is_change(deed):
    """Whether the deed is one of those that change a tree."""
    return deed[0] in CHANGES


def answer_to(things, deed):
    """The answer to the deed, which is not done here."""
    refusal = REFUSALS[deed[0]]
    word = refusal(things, deed)
    if word != "":
        return ("no", word)
    if is_change(deed):
        return DONE
    ask = ASKS[deed[0]]
    return ask(things, deed)


def do(things, deed):
    """Does a deed that changes a tree and is not refused."""
    change = CHANGES[deed[0]]
    change(things, deed)


# Why a deed is refused: each function returns the word of the first reason that is there, "" if
# none is. "or" takes the reasons in the sequence in which they count, and looks no further.


def _word_if(is_so, word):
    return word if is_so else ""


def _if_root(path, word):
    return _word_if(path == "/", word)


def _if_folder(things, path):
    thing = thing_at(things, path)
    return _word_if(thing is not None and things.is_folder(thing), "folder")


def _if_file(things, path):
    return _word_if(not things.is_folder(thing_at(things, path)), "file")


def _if_taken(things, path):
    return _word_if(thing_at(things, path) is not None, "taken")


def _if_full(things):
    return _word_if(things.many_entries() >= MOST_ENTRIES, "full")


def _going_to(things, path):
    return walk(things, names_in(path))[1]


def _going_before(things, path):
    thing, word = walk(things, names_in(path)[:-1])
    return word or _word_if(not things.is_folder(thing), "file")


def _refuse_make(things, deed):
    path = deed[1]
    word = _if_root(path, "root") or _going_before(things, path)
    return word or _if_taken(things, path) or _if_full(things)


def _refuse_write(things, deed):
    path = deed[1]
    word = _if_root(path, "folder") or _going_before(things, path) or _if_folder(things, path)
    if word != "" or thing_at(things, path) is not None:
        return word
    return _if_full(things)


def _refuse_put(things, deed):
    _, path, at, text = deed
    word = _refuse_file(things, deed)
    if word != "":
        return word
    is_beyond = at > things.length_of(thing_at(things, path))
    return _word_if(is_beyond, "beyond") or _word_if(at + len(text) > MOST_SIGNS, "long")


def _refuse_file(things, deed):
    path = deed[1]
    return _going_to(things, path) or _if_folder(things, path)


def _refuse_link(things, deed):
    new = deed[2]
    word = _refuse_file(things, deed) or _if_root(new, "root") or _going_before(things, new)
    return word or _if_taken(things, new) or _if_full(things)


def _refuse_move(things, deed):
    _, path, new = deed
    word = _if_root(path, "root") or _if_root(new, "root") or _going_to(things, path)
    if word != "":
        return word
    is_inside = new.startswith(path + "/") and things.is_folder(thing_at(things, path))
    return _word_if(is_inside, "inside") or _going_before(things, new) or _if_taken(things, new)


def _refuse_remove(things, deed):
    path = deed[1]
    word = _if_root(path, "root") or _going_to(things, path)
    if word != "":
        return word
    thing = thing_at(things, path)
    return _word_if(things.is_folder(thing) and things.many_names(thing) > 0, "used")


def _refuse_list(things, deed):
    path = deed[1]
    return _going_to(things, path) or _if_file(things, path)


def _refuse_look(things, deed):
    return _going_to(things, deed[1])


# What a deed changes, or asks: these functions are for deeds that are not refused.


def _make(things, deed):
    folder, name = _before(things, deed[1])
    things.enter(folder, name, things.new_folder())


def _write(things, deed):
    _, path, text = deed
    file = thing_at(things, path)
    if file is None:
        folder, name = _before(things, path)
        file = things.new_file()
        things.enter(folder, name, file)
    things.rewrite(file, len(text), 0, text)


def _put(things, deed):
    _, path, at, text = deed
    file = thing_at(things, path)
    things.rewrite(file, max(things.length_of(file), at + len(text)), at, text)


def _cut(things, deed):
    _, path, length = deed
    file = thing_at(things, path)
    things.rewrite(file, min(things.length_of(file), length), 0, "")


def _link(things, deed):
    _, path, new = deed
    folder, name = _before(things, new)
    things.enter(folder, name, thing_at(things, path))


def _move(things, deed):
    _, path, new = deed
    folder, name = _before(things, path)
    other, new_name = _before(things, new)
    things.shift(folder, name, other, new_name)


def _remove(things, deed):
    folder, name = _before(things, deed[1])
    things.leave(folder, name)


def _before(things, path):
    """The folder in which the entry at the path is, or will be, and the name of the entry."""
    names = names_in(path)
    return walk(things, names[:-1])[0], names[-1]


def _read(things, deed):
    return ("text", things.signs_of(thing_at(things, deed[1]), 0, MOST_SIGNS))


def _part(things, deed):
    _, path, at, many = deed
    return ("text", things.signs_of(thing_at(things, path), at, many))


def _list(things, deed):
    return ("names", things.names_of(thing_at(things, deed[1])))


def _look(things, deed):
    thing = thing_at(things, deed[1])
    if things.is_folder(thing):
        return ("folder", things.many_names(thing))
    return ("file", things.length_of(thing), things.many_links(thing))


REFUSALS = {
    "make": _refuse_make,
    "write": _refuse_write,
    "put": _refuse_put,
    "cut": _refuse_file,
    "link": _refuse_link,
    "move": _refuse_move,
    "remove": _refuse_remove,
    "read": _refuse_file,
    "part": _refuse_file,
    "list": _refuse_list,
    "look": _refuse_look,
}
CHANGES = {
    "make": _make,
    "write": _write,
    "put": _put,
    "cut": _cut,
    "link": _link,
    "move": _move,
    "remove": _remove,
}
ASKS = {"read": _read, "part": _part, "list": _list, "look": _look}
