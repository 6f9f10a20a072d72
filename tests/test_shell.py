import random
import unittest

from lyinghouse.errors import BadAnswer, BadLine, Busy, NotBusy
from lyinghouse.plain import PlainTree, is_path, parts_of, path_of, played
from lyinghouse.shell import Shell, typed
from samples import odd_values, raised, raises_with

WORDS = ("root", "taken", "full", "folder", "file", "missing", "beyond", "long", "inside", "used")
# A right answer to each deed that a shell wants.
ANSWERS = {"look": ("folder", 2), "list": ("names", ("a", "b")), "read": ("text", "x\ny"), "make": ("done",), "remove": ("done",), "move": ("done",), "link": ("done",),
           "write": ("done",), "put": ("done",), "cut": ("done",)}


def seen(shell):
    """What can be seen of a shell, and how it goes on."""
    other, told = shell.copy(), []
    while other.wants is not None:
        told.append(other.hear(ANSWERS[other.wants[0]] if len(told) < 5 else ("no", "used")))
    return shell.place, shell.wants, told, other.place


def going(place, word):
    """Where a word leads to; None if it tells no path."""
    parts = [] if word[:1] == "/" else list(parts_of(place))
    for part in word.split("/"):
        if part == "..":
            del parts[-1:]
        elif part not in ("", "."):
            parts.append(part)
            if "/" in part or not is_path("/" + part) or len(parts) > 200:
                return None
    return path_of(tuple(parts))


def said(place, tree, line):
    """The lines that are shown, and the place then: section 18 word by word, with the tree at hand. find is told by its paths."""
    words = [word for word in line.split(" ") if word]
    if not words:
        return (), place
    command, told = words[0], words[1:]
    counts = {"pwd": (0,), "cd": (1,), "ls": (0, 1), "cat": (1,), "mkdir": (1,), "rm": (1,), "mv": (2,), "ln": (2,), "cut": (2,), "cp": (2,), "stat": (1,), "find": (0, 1)}
    if command not in (*counts, "write", "add"):
        return (f"{command}: unknown",), place
    if (command in counts and len(told) not in counts[command]) or (command not in counts and not told):
        return (f"{command}: words",), place
    paths = [going(place, word) for word in told[:2 if command in ("mv", "ln", "cp") else 1]] or [place]
    if None in paths:
        return (f"{command}: path",), place
    text = ""
    if command == "cut" and not (told[1] in [str(number) for number in range(2001)]):
        return ("cut: number",), place
    if command in ("write", "add"):
        at = line.index(command) + len(command)
        at = line.index(told[0], at) + len(told[0])
        text = line[at + 1:]
        if len(text) > 2000:
            return (f"{command}: long",), place
    return answered(place, tree, command, paths, told, text)


def answered(place, tree, command, paths, told, text):
    path = paths[0]
    if command == "pwd":
        return (place,), place
    look = tree.answer(("look", path))
    if command in ("cd", "stat", "find", "add") and look[0] == "no" and (command, look[1]) != ("add", "missing"):
        return (f"{command}: {look[1]}",), place
    if command == "cd":
        return (("cd: file",), place) if look[0] == "file" else ((), path)
    if command == "stat":
        return (" ".join(map(str, look)),), place
    if command == "find":
        return tuple(sorted([other for other in tree.paths() if other.startswith(path.rstrip("/") + "/")] + [path], key=parts_of)), place
    deeds = {"ls": ("list", path), "cat": ("read", path), "mkdir": ("make", path), "rm": ("remove", path), "mv": ("move", *paths), "ln": ("link", *paths), "write": ("write", path, text),
             "cut": ("cut", path, int(told[1]) if command == "cut" else 0), "cp": ("read", path)}
    if command == "add":
        if look[0] == "folder":
            return ("add: folder",), place
        deeds["add"] = ("put", path, look[1], text) if look[0] == "file" else ("write", path, text)
    answer = tree.done(deeds[command])
    if command == "cp" and answer[0] == "text":
        answer = tree.done(("write", paths[1], answer[1]))
    if answer[0] == "no":
        return (f"{command}: {answer[1]}",), place
    return {"names": lambda: answer[1], "text": lambda: tuple(answer[1].split("\n")), "done": lambda: ()}[answer[0]](), place


def some_word(chance):
    parts = [chance.choice(("a", "b", "c", "x.y", ".", "..", "", "A", "abcdefghijklm")) if chance.random() < 0.25 else chance.choice("abc") for _ in range(chance.choice((1, 1, 2, 3)))]
    return chance.choice(("", "", "/")) + "/".join(parts)


def some_line(chance):
    command = chance.choice(("pwd", "cd", "cd", "ls", "cat", "mkdir", "mkdir", "mkdir", "rm", "mv", "ln", "write", "write", "add", "add", "cut", "cp", "stat", "find", "dir", "Ls"))
    many = {"pwd": 0, "mv": 2, "ln": 2, "cp": 2, "ls": chance.choice((0, 1)), "find": chance.choice((0, 1))}.get(command, 1)
    words = [command] + [some_word(chance) for _ in range(many)]
    if command == "cut":
        words.append(chance.choice(("0", "1", "5", "2000", "2001", "-1", "01", "x", "+1")))
    if command in ("write", "add"):
        words.append(chance.choice(("", "one", "one  two ", " ", "  x", "y" * 50, "z" * 1990)))
    if chance.random() < 0.08:
        words.append("more")
    if chance.random() < 0.05:
        words.pop()
    line = words[0] if words else ""
    for word in words[1:]:
        line += " " + word
    return chance.choice(("", "", "", "  ")) + line


class Lines(unittest.TestCase):

    def test_some_lines(self):
        words = set()
        for seed in range(60):
            chance = random.Random(seed)
            shell, tree, model, place = Shell(), PlainTree(), PlainTree(), "/"
            for _ in range(80):
                line = some_line(chance)
                shown, place = said(place, model, line)
                self.assertEqual((typed(shell, tree, line), shell.place, shell.wants), (shown, place, None), line)
                self.assertEqual(tree, model)
                words |= {row.rpartition(": ")[2] for row in shown if ": " in row}
        self.assertTrue({"unknown", "words", "path", "number", "root", "file", "missing", "taken", "folder", "inside", "used", "long"} <= words, words)

    def test_words_and_blanks(self):
        tree, shell = PlainTree(), Shell()
        for line, shown in [("", ()), ("   ", ()), ("  pwd  ", ("/",)), ("pwd x", ("pwd: words",)), ("mkdir", ("mkdir: words",)), ("mkdir a b", ("mkdir: words",)), ("  mkdir   a ", ()),
                            ("write", ("write: words",)), ("write x", ()), ("cat x", ("",)), ("write x ", ()), ("cat x", ("",)), ("  write   x  y ", ()), ("cat x", (" y ",)),
                            ("add x  z", ()), ("cat x", (" y  z",)), ("add y", ()), ("stat y", ("file 0 1",)), ("add a x", ("add: folder",)), ("add x/y z", ("add: file",)),
                            ("add q/r z", ("add: missing",)), ("find a b", ("find: words",)), ("ls a b", ("ls: words",)), ("cut x", ("cut: words",)), ("cut x 1 1", ("cut: words",)),
                            ("cut X a", ("cut: path",)), ("cut x 2001", ("cut: number",)), ("cut x 00", ("cut: number",)), ("cut x 2000", ()), ("mv a X", ("mv: path",)), ("mv X a", ("mv: path",)),
                            ("Pwd", ("Pwd: unknown",)), ("pwd: x", ("pwd:: unknown",)), ("stat a", ("folder 0",)), ("cd a", ()), ("cd ../x", ("cd: file",)), ("cd ..", ()), ("cd ..", ()), ("pwd", ("/",)),
                            ("find", ("/", "/a", "/x", "/y")), ("find x", ("/x",)), ("find q", ("find: missing",)), ("find x/y", ("find: file",)), ("ls x", ("ls: file",)), ("ls", ("a", "x", "y"))]:
            self.assertEqual(typed(shell, tree, line), shown, line)

    def test_texts_at_the_limit(self):
        tree, shell = PlainTree(), Shell()
        self.assertEqual(typed(shell, tree, "write x " + "y" * 2000), ())
        self.assertEqual(typed(shell, tree, "cat x"), ("y" * 2000,))
        for command in ("write", "add"):
            self.assertEqual(typed(shell, tree, f"{command} x " + "y" * 2001), (f"{command}: long",))
            self.assertEqual(typed(shell, tree, f"{command} X " + "y" * 2001), (f"{command}: path",))
        self.assertEqual(typed(shell, tree, "add x y"), ("add: long",))
        self.assertEqual(typed(shell, tree, "pwd" + " " * 2497), ("/",))
        self.assertTrue(raises_with(raised(shell.line, "pwd" + " " * 2498), BadLine, "pwd" + " " * 2498))

    def test_paths_at_the_limit(self):
        shell = Shell()
        for word, path in [("/".join("a" * 200), "/" + "/".join("a" * 200)), ("/" + "/".join("a" * 201), None), ("/".join("a" * 200) + "/..", "/" + "/".join("a" * 199)),
                           ("/".join("a" * 201) + "/..", None), ("abcdefghijkl", "/abcdefghijkl"), ("abcdefghijklm", None), ("//a//", "/a"), ("...", "/..."), ("a/./.././b", "/b"),
                           ("../..", "/"), (".", "/"), ("A/..", None), ("a-b", None), ("a_b.9", "/a_b.9")]:
            told = shell.line("stat " + word)
            self.assertEqual(told, ("shows", ("stat: path",)) if path is None else ("wants", ("look", path)))
            if path is not None:
                shell.hear(("no", "missing"))
        deep = "/".join("a" * 199)
        shell.line("cd " + deep)
        self.assertEqual(shell.hear(("folder", 0)), ("shows", ()))
        self.assertEqual((shell.place, shell.line("mkdir b/c")), ("/" + deep, ("shows", ("mkdir: path",))))
        self.assertEqual(shell.line("mkdir ../b/c"), ("wants", ("make", "/" + "/".join("a" * 198) + "/b/c")))


class Hearing(unittest.TestCase):

    def test_errors(self):
        shell = Shell()
        for odd in odd_values() + ["a\nb", "a\tb", b"ls"]:
            if not (isinstance(odd, str) and odd in ("", "/", "a", "ann", "seal", "make", "/a b", "x" * 2001)):
                self.assertTrue(raises_with(raised(shell.line, odd), BadLine, odd))
                self.assertTrue(raises_with(raised(typed, shell, PlainTree(), odd), BadLine, odd))
            self.assertTrue(raises_with(raised(shell.hear, odd), NotBusy, odd))
        shell.line("cd a")
        for text in ("pwd", "a\n", 7):
            self.assertTrue(raises_with(raised(shell.line, text), Busy, ("look", "/a")))
            self.assertTrue(raises_with(raised(typed, shell, PlainTree(), text), Busy, ("look", "/a")))
        self.assertEqual((shell.hear(answer=("folder", 0)), shell.place, shell.line(text="pwd")), (("shows", ()), "/a", ("shows", ("/a",))))

    def test_forms_of_answers(self):
        lines = {"look": "stat a", "list": "ls", "read": "cat a", "make": "mkdir a", "remove": "rm a", "move": "mv a b", "link": "ln a b", "write": "write a", "cut": "cut a 1"}
        right = [("done",), ("text", ""), ("text", "x" * 2000), ("text", "a\nb"), ("names", ()), ("names", ("a", "b")), ("names", tuple(f"{number:03d}" for number in range(200))),
                 ("folder", 0), ("folder", 2000), ("file", 0, 0), ("file", 2000, 2000)] + [("no", word) for word in WORDS]
        wrong = [("text", "x" * 2001), ("text", "a\tb"), ("text", 1), ("text",), ("text", "a", "b"), ("names", ["a"]), ("names", ("b", "a")), ("names", ("a", "a")), ("names", ("A",)), ("names", ("",)),
                 ("names", ("a/b",)), ("names", (".",)), ("names", ("..",)), ("names", (1,)), ("names", tuple(f"{number:03d}" for number in range(201))), ("names",), ("folder", 2001), ("folder", -1),
                 ("folder", True), ("folder",), ("folder", 1, 1), ("file", 1), ("file", 1, True), ("file", 1, 2001), ("file", 1, 1, 1), ("done", 1), ["done"], "done", ("no",), ("no", "No"), ("no", "no"),
                 ("no", "root", 1), ["no", "root"], ("no", 1), ("no", ("root",)), ("no", None), ((), 1), (("no",), "root"), ("names", "ab"), ("folder", None), ("file", "1", "1")]
        forms = {"look": ("folder", "file"), "list": ("names",), "read": ("text",)}
        for word, line in lines.items():
            for answer in right + wrong + odd_values():
                shell = Shell()
                shell.line(line)
                self.assertEqual(shell.wants[0], word)
                is_right = answer in right and isinstance(answer, tuple) and (answer[0] in forms.get(word, ("done",)) or answer[0] == "no") and True not in [part is True for part in answer]
                before = seen(shell)
                error = raised(shell.hear, answer)
                self.assertEqual(error is None, is_right, (word, answer))
                if not is_right:
                    self.assertTrue(raises_with(error, BadAnswer, answer))
                    self.assertEqual(seen(shell), before)

    def test_words_of_each_command(self):
        """A deed that cannot be done: its word is shown, and nothing more is asked for."""
        for line, answers in [("cd a", ()), ("ls", ()), ("cat a", ()), ("mkdir a", ()), ("rm a", ()), ("mv a b", ()), ("ln a b", ()), ("write a b", ()), ("add a b", ()), ("cut a 1", ()), ("cp a b", ()),
                              ("stat a", ()), ("find a", ()), ("cp a b", (("text", "x"),)), ("add a b", (("file", 3, 1),)), ("add a b", (("no", "missing"),))]:
            for word in WORDS:
                if (line, answers, word) != ("add a b", (), "missing"):
                    shell = Shell()
                    shell.line(line)
                    for answer in answers:
                        self.assertEqual(shell.hear(answer), ("wants", shell.wants))
                    self.assertEqual(shell.hear(("no", word)), ("shows", (f"{line.split()[0]}: {word}",)))
                    self.assertEqual((shell.place, shell.wants), ("/", None))

    def test_the_tree_may_change_between_two_deeds(self):
        shell = Shell()
        self.assertEqual([shell.line("add a xy"), shell.hear(("file", 7, 1)), shell.hear(("no", "beyond"))], [("wants", ("look", "/a")), ("wants", ("put", "/a", 7, "xy")), ("shows", ("add: beyond",))])
        self.assertEqual([shell.line("add a xy"), shell.hear(("no", "missing")), shell.hear(("no", "folder"))], [("wants", ("look", "/a")), ("wants", ("write", "/a", "xy")), ("shows", ("add: folder",))])
        self.assertEqual([shell.line("add a xy"), shell.hear(("folder", 0)), shell.wants], [("wants", ("look", "/a")), ("shows", ("add: folder",)), None])
        self.assertEqual([shell.line("cp a b"), shell.hear(("text", "x\n")), shell.hear(("done",))], [("wants", ("read", "/a")), ("wants", ("write", "/b", "x\n")), ("shows", ())])
        self.assertEqual([shell.line("cat b"), shell.hear(("text", "x\n\ny\n"))], [("wants", ("read", "/b")), ("shows", ("x", "", "y", ""))])

    def test_copies(self):
        for line in ("pwd", "cd a", "add a b", "find", "cp a b"):
            shell = Shell()
            shell.line("cd q")
            shell.hear(("folder", 1))
            shell.line(line)
            for _ in range(4):
                other = shell.copy()
                self.assertEqual(seen(other), seen(shell))
                before = seen(other)
                if shell.wants is not None:
                    shell.hear(ANSWERS[shell.wants[0]])
                self.assertEqual(seen(other), before)
                before = seen(shell)
                if other.wants is None:
                    other.line("cd /z")
                other.hear(ANSWERS[other.wants[0]])
                self.assertEqual(seen(shell), before)


class Find(unittest.TestCase):

    def test_the_deeds_in_their_sequence(self):
        shell = Shell()
        answers = {("look", "/"): ("folder", 3), ("list", "/"): ("names", ("a", "b", "c", "d")), ("look", "/a"): ("folder", 2), ("look", "/b"): ("file", 1, 1), ("look", "/c"): ("no", "missing"),
                   ("look", "/d"): ("folder", 1), ("list", "/a"): ("names", ("x", "y")), ("look", "/a/x"): ("folder", 9), ("look", "/a/y"): ("folder", 0), ("list", "/a/x"): ("no", "file"),
                   ("list", "/a/y"): ("names", ()), ("list", "/d"): ("names", ("z",)), ("look", "/d/z"): ("file", 0, 1)}
        told, deeds = shell.line("find"), []
        while told[0] == "wants":
            deeds.append(told[1])
            told = shell.hear(answers[told[1]])
        self.assertEqual(deeds, list(answers)[:6] + [("list", "/a"), ("look", "/a/x"), ("look", "/a/y"), ("list", "/a/x"), ("list", "/a/y"), ("list", "/d"), ("look", "/d/z")])
        self.assertEqual(told, ("shows", ("/", "/a", "/a/x", "/a/y", "/b", "/d", "/d/z")))

    def test_all_trees(self):
        for seed in range(40):
            chance = random.Random(seed)
            tree, folders = PlainTree(), [""]
            for number in range(chance.choice((0, 5, 60, 200))):
                path = chance.choice(folders) + f"/{chance.choice('abc._')}{number}"
                tree.done(chance.choice((("make", path), ("write", path, ""))))
                if tree.answer(("look", path))[0] == "folder" and len(parts_of(path)) < 200:
                    folders.append(path)
            for path in ["/"] + list(tree.paths())[:20]:
                below = [other for other in tree.paths() if other.startswith(path.rstrip("/") + "/")]
                shown = typed(Shell(), tree, f"find {path}")
                self.assertEqual((shown[0], sorted(shown[1:])), (path, below))
                for at, other in enumerate(shown[1:], 1):
                    above = path_of(parts_of(other)[:-1])
                    # Between a folder and what is in it stands only what is in it, too.
                    self.assertTrue(all(one.startswith(above.rstrip("/") + "/") for one in shown[shown.index(above) + 1:at]))

    def test_as_deep_as_paths_go(self):
        tree = played(tuple(("make", path_of(("abcdefghijkl",) * many)) for many in range(1, 201)))[1]
        self.assertEqual(typed(Shell(), tree, "find"), ("/", *tree.paths()))
        shell = Shell()
        deep = path_of(("a",) * 200)
        self.assertEqual([shell.line("find " + deep), shell.hear(("folder", 1)), shell.hear(("names", ("a",)))], [("wants", ("look", deep)), ("wants", ("list", deep)), ("shows", (deep,))])

    def test_a_thousand_deeds(self):
        """Each folder has 100 names: 1 look, then lists of 100 looks each."""
        for is_last_many in (False, True):
            shell, deeds = Shell(), 1
            told = shell.line("find")
            told = shell.hear(("folder", 1))
            while told[0] == "wants":
                deeds += 1
                if told[1][0] == "list":
                    told = shell.hear(("names", tuple(f"{number:02d}" for number in range(99 if deeds < 900 else 98 if not is_last_many else 99))))
                else:
                    is_first = told[1][1].endswith("/00") and deeds < 900
                    told = shell.hear(("folder", 1) if is_first else ("file", 1, 1))
            self.assertEqual((deeds, told[1][-1] == "find: many"), (1000, is_last_many))
            self.assertEqual(len(told[1]), 990 + is_last_many)

    def test_what_was_looked_at_is_shown(self):
        shell, deeds = Shell(), 0
        told = shell.line("find /q")
        while told[0] == "wants":
            deeds += 1
            told = shell.hear(("names", tuple(f"{number:03d}" for number in range(200))) if told[1][0] == "list" else ("folder", 0))
        # 1 look, four lists with 200 looks each, and one with 194.
        self.assertEqual((deeds, len(told[1]), told[1][-1]), (1000, 996, "find: many"))
        self.assertEqual(told[1][:6], ("/q", "/q/000", "/q/000/000", "/q/000/000/000", "/q/000/000/000/000", "/q/000/000/000/000/000"))
        self.assertEqual(told[1][198], "/q/000/000/000/000/193")


if __name__ == "__main__":
    unittest.main()
