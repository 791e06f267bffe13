"""The console: point [36], fact K3."""

import copy
import re
import unittest

from argument_checks import ODD
from edition_samples import worth_in
from helpers import OwnString, grown_tree, numbers, raised
from live_samples import Model, drawn_store, heights, way_by_words
from oneshape import errors
from oneshape.console import Console
from oneshape.trees import tree_text
from text_samples import LETTERS, index_of, letters_by_words, nearly_texts, ranking_by_words, store_by_words

WORD = {"NAME": "[a-z]{1,8}", "KEY": "[a-x]", "WORTH": "(0|-?[1-9][0-9]{0,8})", "K": "(0|[1-9][0-9]{0,3})",
        "TEXT": "[^ ]+"}
FORMS = ["open NAME TEXT", "low NAME K TEXT", "use NAME", "twin NAME", "forget NAME", "same NAME", "put KEY WORTH", "take KEY",
         "cut KEY KEY", "in TEXT", "undo", "begin", "keep", "drop", "show", "tree", "way KEY", "changed", "height",
         "moments", "where", "paper", "journal"]
PATTERNS = [re.compile(" ".join(WORD.get(word, word) for word in form.split()), re.DOTALL) for form in FORMS]
QUESTIONS = ["show", "tree", "changed", "height", "moments", "paper"] + ["way " + letter for letter in "abcde"]


def is_one_command(text):
    return any(pattern.fullmatch(text) for pattern in PATTERNS)


def is_command(text):
    """Whether the text is a command, by the forms of all commands."""
    if text.startswith("run "):
        return all(is_one_command(part) for part in text[4:].split("; "))
    return is_one_command(text)


def state_of(console):
    """All that a console tells of what stands by the names a to d, without any change of it."""
    other = copy.deepcopy(console)
    found = [repr(raised(other.execute, "where"))]
    for name in [None, "a", "b", "c", "d"]:
        if name is None or raised(other.execute, "use " + name) is None:
            if raised(other.execute, "show") is None:
                found += [name, [other.execute(question) for question in ("journal", "where", "show", "moments")]]
                again = copy.deepcopy(other)
                # Where the open spans begin is seen by ending them.
                while raised(again.execute, "drop") is None:
                    found.append(again.execute("journal"))
    return found


def worth_told(word):
    return "" if word == "*" else word


class ModelConsole:
    """What a console should answer, by the words of the point; an error is told by its name and its value."""

    def __init__(self):
        self.models, self.chosen = {}, None

    def execute(self, command):
        if not command.startswith("run "):
            return self.one(command)
        kept = copy.deepcopy((self.models, self.chosen))
        told = []
        for part in command[4:].split("; "):
            answer = self.one(part)
            if type(answer) is tuple:
                self.models, self.chosen = kept
                return answer
            told.append(answer)
        return "; ".join(told)

    def one(self, command):
        word, *rest = command.split(" ")
        if word in ("open", "low"):
            return self.new(rest[0], None if word == "open" else int(rest[1]), worth_told(rest[-1]))
        if word not in ("use", "forget") and self.chosen is None:
            return ("NotReady",)
        if word in ("use", "forget", "same") and rest[0] not in self.models:
            return ("NotReady",)
        if word == "use":
            self.chosen = rest[0]
        elif word == "forget":
            del self.models[rest[0]]
            self.chosen = None if self.chosen == rest[0] else self.chosen
        else:
            return self.of_the_chosen(word, rest)
        return "ok"

    def new(self, name, bound, text):
        if index_of("ranking", text) is not None:
            return ("InvalidText", index_of("ranking", text))
        if bound is not None and not 1 <= bound <= 24:
            return ("InvalidCount",)
        ranking = tuple(len(text) - 1 - text.index(LETTERS[key]) for key in range(len(text)))
        self.models[name], self.chosen = Model(ranking, (), bound), name
        return "ok"

    def of_the_chosen(self, word, rest):
        model = self.models[self.chosen]
        if word == "twin":
            twin = copy.deepcopy(model)
            twin.spans = []
            self.models[rest[0]] = twin
            return "ok"
        if word == "same":
            other = self.models[rest[0]]
            return "yes" if (model.ranking, model.bound, model.deeds) == (other.ranking, other.bound, other.deeds) else "no"
        if word in ("put", "take", "cut", "in"):
            return self.deed(model, word, rest)
        if word == "undo":
            deed = model.undo()
            return ("NothingToUndo",) if deed is None else self.told(deed)
        if word == "begin":
            model.spans.append(len(model.deeds))
            return "ok"
        if word in ("keep", "drop"):
            if not model.spans:
                return ("NoSpan",)
            model.drop() if word == "drop" else model.spans.pop()
            return "ok"
        return self.question(model, word, rest)

    def deed(self, model, word, rest):
        if word == "in":
            text = worth_told(rest[0])
            if index_of("store", text) is not None:
                return ("InvalidText", index_of("store", text))
            store = tuple((LETTERS.index(entry[0]), int(entry[1:])) for entry in text.split(".") if entry)
            if any(key >= len(model.ranking) for key, _ in store):
                return ("InvalidStore",)
            deed = ("take_in", store)
        else:
            deed = (word, *[LETTERS.index(part) if part in LETTERS else int(part) for part in rest])
            if any(LETTERS.index(part) >= len(model.ranking) for part in rest if part in LETTERS):
                return ("InvalidKey",)
        wanted, told, answer = model.outcome(deed)
        if wanted is not None:
            return (wanted,) if told is None else (wanted, told)
        model.do(deed)
        return letters_by_words(answer) if word == "in" else str(answer)

    def told(self, deed):
        name, *rest = deed
        if name == "take_in":
            return "in " + (store_by_words(rest[0]) or "*")
        if name == "put":
            return f"put {LETTERS[rest[0]]} {rest[1]}"
        return " ".join([name] + [LETTERS[key] for key in rest])

    def question(self, model, word, rest):
        keys = [key for key, _ in model.store]
        unlike = [key for key in range(24) if worth_in(model.start, key) != worth_in(model.store, key)]
        if word == "way":
            key = LETTERS.index(rest[0])
            if key >= len(model.ranking):
                return ("InvalidKey",)
            return letters_by_words(way_by_words(model.ranking, model.store, key)) or "*"
        if word == "journal":
            kind = "open " + self.chosen if model.bound is None else f"low {self.chosen} {model.bound}"
            first = kind + " " + (ranking_by_words(model.ranking) or "*")
            return "; ".join([first] + [self.told(deed) for deed in model.deeds])
        return {
            "show": store_by_words(model.store) or "*",
            "tree": tree_text(grown_tree(model.ranking, keys)),
            "changed": letters_by_words(unlike) or "*",
            "height": str(max(heights(model.ranking, model.store).values(), default=0)),
            "moments": " ".join("=".join(map(str, row)) for row in model.moments()),
            "where": f"{len(model.store)} {len(model.deeds)} {len(model.spans)}",
            "paper": ";".join(["d", "", store_by_words(model.store), letters_by_words(unlike)]),
        }[word]


def told_error(error):
    """An error by its name and its value."""
    field = {"InvalidText": "index", "Clash": "lot", "TooHigh": "lot"}.get(type(error).__name__)
    return (type(error).__name__,) + ((getattr(error, field),) if field else ())


def drawn_command(draws, model):
    """A command of good form, mostly one that is not refused."""
    chosen = model.models.get(model.chosen)
    size = max(1, len(chosen.ranking) if chosen else 1)

    def key():
        return LETTERS[next(draws) % (size + (next(draws) % 30 == 0)) % 24]

    def name():
        return "abcd"[next(draws) % 4]

    kind = next(draws) % 40
    text = ("bdcea", "ab", "*", "hgcabdef", "cab", "ba", "ac", "badc")[next(draws) % 8]
    bound = 0 if next(draws) % 9 == 0 else 1 + next(draws) % 5
    store = store_by_words(drawn_store(range(size), draws)) or "*"
    if kind < 3 or chosen is None and kind < 20:
        return (f"open {name()} {text}", f"low {name()} {bound} {text}")[next(draws) % 2]
    if kind < 18:
        worth = next(draws) % 5 - 2
        return [f"put {key()} {worth}", f"take {key()}", f"cut {key()} {key()}", f"in {store}", f"put {key()} {worth}",
                f"put {key()} {worth}"][next(draws) % 6]
    if kind < 25:
        return ["undo", "begin", "keep", "drop", "begin", "keep", "undo"][kind - 18]
    if kind < 31:
        return ["use", "twin", "same", "use", "twin", "forget"][kind - 25] + " " + name()
    return ["show", "tree", "way " + key(), "changed", "height", "moments", "where", "paper", "journal"][kind - 31]


class Drawn(unittest.TestCase):
    def answer(self, console, command):
        error = raised(copy.deepcopy(console).execute, command)
        if error is None:
            return console.execute(command)
        before = state_of(console)
        self.assertIs(type(raised(console.execute, command)), type(error))
        self.assertEqual(state_of(console), before, command)
        return told_error(error)

    def test_drawn_commands(self):
        seen = {}
        for seed in range(60):
            draws, console, model = numbers(7000 + seed), Console(), ModelConsole()
            for _ in range(50):
                command = drawn_command(draws, model)
                if next(draws) % 7 == 0:
                    trial = copy.deepcopy(model)
                    row = [command]
                    for _ in range(next(draws) % 5):
                        trial.execute(row[-1])
                        row.append(drawn_command(draws, trial))
                    command = "run " + "; ".join(row)
                if any(len(live.spans) > 11 for live in model.models.values()) and "begin" in command:
                    continue
                wanted = model.execute(command)
                self.assertEqual(repr(self.answer(console, command)), repr(wanted), command)
                kind = wanted[0] if type(wanted) is tuple else "answer"
                seen[(command.split(" ")[0], kind)] = True
            self.check_journal(console)
        for form in FORMS + ["run"]:
            self.assertIn((form.split(" ")[0], "answer"), seen)
        for pair in [("put", "Refused"), ("put", "TooHigh"), ("put", "InvalidKey"), ("in", "Clash"), ("in", "Refused"),
                     ("use", "NotReady"), ("show", "NotReady"), ("same", "NotReady"), ("undo", "NothingToUndo"),
                     ("keep", "NoSpan"), ("drop", "NoSpan"), ("open", "InvalidText"), ("low", "InvalidCount"),
                     ("low", "InvalidText"), ("run", "Refused"), ("run", "NotReady"), ("way", "InvalidKey")]:
            self.assertIn(pair, seen)

    def check_journal(self, console):
        """By K3 the journal makes one that is equal and answers likewise."""
        for name in "abcd":
            if raised(console.execute, "use " + name) is None:
                journal = console.execute("journal")
                other = Console()
                other.execute("run " + journal)
                for question in QUESTIONS + ["journal"]:
                    self.assertEqual(repr(self.answer(other, question)), repr(self.answer(console, question)))
                # Both stand in one console, the new one by another name.
                words = journal.split(" ")
                console.execute("run " + " ".join([words[0], "fresh"] + words[2:]))
                self.assertEqual(console.execute("same " + name), "yes")
                console.execute("forget fresh")


class Forms(unittest.TestCase):
    def check(self, console, command):
        """InvalidCommand unless the text is a command; what else may be told does not matter here."""
        error = raised(copy.deepcopy(console).execute, command)
        if is_command(command):
            self.assertNotIsInstance(error, errors.InvalidCommand, command)
        else:
            self.assertIs(type(error), errors.InvalidCommand, command)
            before = state_of(console)
            raised(console.execute, command)
            self.assertEqual(state_of(console), before)

    def test_commands_that_are_nearly_so(self):
        console = Console()
        console.execute("run open a bdcea; put b 7; open b ab")
        for command in ["open a ba", "low a 3 ba", "use b", "twin c", "forget b", "same a", "put b 7", "put a -2", "take b",
                        "cut a b", "in a9.b7", "in *", "undo", "begin", "keep", "drop", "show", "tree", "way b", "changed",
                        "height", "moments", "where", "paper", "journal", "run show", "run put a 1; show; undo"]:
            self.assertTrue(is_command(command), command)
            for text in nearly_texts(command, " ab0-1;*\t\nzA"):
                self.check(console, text)
            for text in [command + " ", " " + command, command + " a", command.upper(), command.replace(" ", "  "),
                         command.replace(" ", "\t"), command + "\n", command + ";", command + "; ", "; " + command,
                         command + "; show", "run " + command, "run run " + command, "run " + command + "; run show"]:
                self.check(console, text)

    def test_words(self):
        console = Console()
        console.execute("open a " + LETTERS)
        for name in ["", "a", "abcdefgh", "abcdefghi", "z", "A", "a1", "-", "*", "a;", "\n", "a\n", "\u00e9", "run", "open"]:
            for form in ("use {}", "open {} a", "low {} 2 a", "twin {}", "forget {}", "same {}"):
                self.check(console, form.format(name))
        for key in ["", "a", "x", "y", "ab", "A", "0", "*", "-", "a\n", "\n"]:
            for form in ("put {} 1", "take {}", "cut {} a", "cut a {}", "way {}"):
                self.check(console, form.format(key))
        for worth in ["", "0", "-0", "00", "01", "-01", "+1", "-", "--1", "1", "-1", "999999999", "-999999999", "1000000000",
                      "-1000000000", "1.", "1a", "\u0661", "1\n", "*", "1_0", "\u00b2"]:
            self.check(console, "put a " + worth)
        for bound in ["", "0", "00", "1", "9999", "10000", "01", "-1", "-0", "+2", "2.", "a", "*", "\u0662", "2\n"]:
            self.check(console, f"low a {bound} ba")
        for text in ["", "*", "**", ";", ";;", "a;b", "\t", "\n", "a\tb", "-", "\u00e9", "run", "x" * 19000, ";a", "a;"]:
            for form in ("open a {}", "low a 2 {}", "in {}"):
                self.check(console, form.format(text))

    def test_runs(self):
        console = Console()
        console.execute("open a ba")
        for command in ["run", "run ", "run  show", "run show ", "run ; show", "run show;", "run show; ", "run show;show",
                        "run show;  show", "run show ; show", "run run show", "run show; run show", "run show; show", "Run show",
                        "run show; run", "run in a1;; show", "run in a1;;; show", "run in ;; show", "run in ; show",
                        "run in a1; ; show", "run show\n", "run show;\nshow", "run open a ba; open", "run *", "show; show",
                        "run " + "; ".join(["show"] * 64), "run " + "show; " * 64, "run open a a; ", "run open a a;"]:
            self.check(console, command)
        self.assertEqual(told_error(raised(console.execute, "run show; in a1;; show")), ("InvalidText", 2))
        self.assertEqual(console.execute("run " + "; ".join(["show"] * 64)), "; ".join(["*"] * 64))

    def test_values_of_other_kinds(self):
        for console in (Console(), self.with_one()):
            for value in ODD + [0, b"show", OwnString("show"), ("show",), ["show"], {"show": 1}, "x" * 20000, "run " * 5000]:
                self.assertIs(type(raised(console.execute, value)), errors.InvalidCommand, value)

    def with_one(self):
        console = Console()
        console.execute("open a ba")
        return console


class Errors(unittest.TestCase):
    def check(self, console, command, *wanted):
        before = state_of(console)
        for call in (lambda: console.execute(command), lambda: console.execute(command=command)):
            self.assertEqual(told_error(raised(call)), wanted, command)
            self.assertEqual(state_of(console), before, command)

    def test_not_ready(self):
        console = Console()
        for form in FORMS:
            command = form.replace("NAME", "a").replace("KEY", "a").replace("WORTH", "1").replace("K", "2").replace("TEXT", "y")
            if command.split(" ")[0] in ("open", "low"):
                self.check(console, command, "InvalidText", 0)
            else:
                self.check(console, command, "NotReady")
                self.check(console, "run " + command, "NotReady")
        console.execute("open a ba")
        for command in ("use b", "forget b", "same b", "run show; use b"):
            self.check(console, command, "NotReady")
        console.execute("forget a")
        for command in ("use a", "show", "same a", "twin b", "in y", "put x 1"):
            self.check(console, command, "NotReady")

    def test_each_in_its_turn(self):
        console = Console()
        for command, wanted in [
            ("open a ac", ("InvalidText", 2)), ("low a 0 ac", ("InvalidText", 2)), ("low a 0 ba", ("InvalidCount",)),
            ("low a 25 ba", ("InvalidCount",)), ("low a 9999 y", ("InvalidText", 0)), ("open a **", ("InvalidText", 0)),
            ("low a 25 *", ("InvalidCount",)), ("open a aa", ("InvalidText", 1)), ("open a a\n", ("InvalidText", 1)),
        ]:
            self.check(console, command, *wanted)
        console.execute("run low a 2 bdcea; put b 7; put d 0")
        for command, wanted in [
            ("put f 1", ("InvalidKey",)), ("put b 7", ("Refused",)), ("put c 0", ("TooHigh", (2,))), ("take f", ("InvalidKey",)),
            ("take a", ("Refused",)), ("cut a x", ("InvalidKey",)), ("cut f a", ("InvalidKey",)), ("cut c c", ("Refused",)),
            ("in a9.f1", ("InvalidStore",)), ("in f1.a9", ("InvalidText", 3)), ("in b8", ("Clash", (1,))),
            ("in b8.f1", ("InvalidStore",)), ("in b7.d0", ("Refused",)), ("in *", ("Refused",)), ("in -", ("InvalidText", 0)),
            ("in a0.c0", ("TooHigh", (2,))), ("in a00", ("InvalidText", 2)), ("way f", ("InvalidKey",)), ("keep", ("NoSpan",)),
            ("drop", ("NoSpan",)), ("in **", ("InvalidText", 0)), ("in a1;", ("InvalidText", 2)),
        ]:
            self.check(console, command, *wanted)
            self.check(console, "run open b ba; use a; take b; put b 7; " + command, *wanted)

    def test_a_run_that_fails_at_each_place(self):
        good = ["put a 1", "begin", "put b 2", "open b ba", "put a 5", "use a", "keep", "twin b", "twin c", "use c", "take a",
                "begin", "low a 3 cab", "put c 1", "forget c", "use b", "undo"]
        for spans in ("", "; begin; put d 1"):
            for at in range(len(good) + 1):
                for wrong, wanted in [("take e", "Refused"), ("use e", "NotReady"), ("in y", "InvalidText"),
                                      ("in e1.x1", "InvalidStore"), ("open a ac", "InvalidText"), ("low c 0 a", "InvalidCount")]:
                    console = Console()
                    console.execute("run open d dcba; put a 9; open a bdcea; put d 0" + spans)
                    console.execute("run open b ab; put a 4; use a")
                    before = state_of(console)
                    command = "run " + "; ".join(good[:at] + [wrong] + good[at:])
                    # The one that is chosen there has perhaps no key e.
                    self.assertIn(type(raised(console.execute, command)).__name__, (wanted, "InvalidKey"), command)
                    self.assertEqual(state_of(console), before, command)
                    self.assertEqual(console.execute("run " + "; ".join(good)).split("; ")[:3], ["2", "ok", "1"])

    def test_a_wrong_form_is_told_before_the_first_command_is_executed(self):
        console = Console()
        self.check(console, "run open a ba; shows", "InvalidCommand")
        self.check(console, "run use a; shows", "InvalidCommand")
        self.check(console, "run use a; show", "NotReady")
        self.check(console, "run open a y; use b", "InvalidText", 0)


class Answers(unittest.TestCase):
    def check(self, console, *pairs):
        for command, wanted in pairs:
            self.assertEqual(console.execute(command), wanted, command)

    def test_empty_answers(self):
        console = Console()
        self.check(console, ("open a *", "ok"), ("show", "*"), ("tree", "-"), ("changed", "*"), ("height", "0"),
                   ("moments", "0"), ("where", "0 0 0"), ("paper", "d;;;"), ("journal", "open a *"))
        self.check(console, ("low a 7 ba", "ok"), ("way b", "*"), ("journal", "low a 7 ba"), ("put a -5", "1"),
                   ("way b", "a"), ("take a", "-5"), ("way a", "*"), ("moments", "0=2 1"))

    def test_taking_in_nothing(self):
        console = Console()
        console.execute("open a ba")
        self.assertIs(type(raised(console.execute, "in *")), errors.Refused)
        self.check(console, ("in a0.b-5", "ab"), ("journal", "open a ba; in a0.b-5"), ("undo", "in a0.b-5"), ("show", "*"))

    def test_names(self):
        console = Console()
        self.check(console, ("open a ba", "ok"), ("put a 1", "1"), ("twin abcdefgh", "ok"), ("journal", "open a ba; put a 1"),
                   ("same abcdefgh", "yes"), ("use abcdefgh", "ok"), ("journal", "open abcdefgh ba; put a 1"), ("same a", "yes"),
                   ("take a", "1"), ("same a", "no"), ("same abcdefgh", "yes"), ("low a 3 ba", "ok"), ("put a 1", "1"),
                   ("same abcdefgh", "no"), ("twin abcdefgh", "ok"), ("same abcdefgh", "yes"),
                   ("use abcdefgh", "ok"), ("journal", "low abcdefgh 3 ba; put a 1"), ("forget a", "ok"), ("show", "a1"),
                   ("forget abcdefgh", "ok"))
        self.assertIs(type(raised(console.execute, "show")), errors.NotReady)

    def test_a_twin_by_the_chosen_ones_own_name(self):
        console = Console()
        self.check(console, ("open a ba", "ok"), ("put a 1", "1"), ("begin", "ok"), ("put b 2", "1"), ("where", "2 2 1"),
                   ("twin a", "ok"), ("where", "2 2 0"), ("undo", "put b 2"), ("undo", "put a 1"), ("where", "0 0 0"))

    def test_a_twin_in_the_place_of_another_one(self):
        console = Console()
        self.check(console, ("open b cab", "ok"), ("open a ba", "ok"), ("begin", "ok"), ("twin b", "ok"), ("where", "0 0 1"),
                   ("same b", "yes"), ("use b", "ok"), ("where", "0 0 0"), ("journal", "open b ba"))

    def test_consoles_are_independent(self):
        one, other = Console(), Console()
        one.execute("open a ba")
        self.assertIs(type(raised(other.execute, "use a")), errors.NotReady)
        self.assertEqual([name for name in vars(one) if not name.startswith("_")], [])

    def test_open_in_the_place_of_one_that_stood_there(self):
        console = Console()
        self.check(console, ("open a ba", "ok"), ("put a 1", "1"), ("open a cab", "ok"), ("where", "0 0 0"),
                   ("journal", "open a cab"), ("open run a", "ok"), ("use run", "ok"), ("journal", "open run a"))


if __name__ == "__main__":
    unittest.main()
