"""Commands of the console: which texts are commands, and those that tell deeds."""

from oneshape.letters import DIGITS, LETTERS, MOST_DIGITS, letters_of, text_of_ranking, text_of_store

NAME_LETTERS = "abcdefghijklmnopqrstuvwxyz"
MOST_NAME_LETTERS = 8
MOST_BOUND_DIGITS = 4
EMPTY = "*"
BETWEEN = "; "
RUN = "run "
# Of each command the kinds of the words that follow the first one.
FORMS = {
    "open": ("name", "text"),
    "low": ("name", "bound", "text"),
    "use": ("name",),
    "twin": ("name",),
    "forget": ("name",),
    "same": ("name",),
    "put": ("key", "worth"),
    "take": ("key",),
    "cut": ("key", "key"),
    "in": ("text",),
    "undo": (),
    "begin": (),
    "keep": (),
    "drop": (),
    "show": (),
    "tree": (),
    "way": ("key",),
    "changed": (),
    "height": (),
    "moments": (),
    "where": (),
    "paper": (),
    "journal": (),
}


def holds_command(value):
    """Whether the value is a command."""
    return type(value) is str and all([_holds_one(part) for part in commands_of(value)])


def is_run(command):
    """Whether the command is a run, or no command at all."""
    return command.startswith(RUN)


def commands_of(command):
    """The commands of a run, or the command itself alone."""
    return command[len(RUN):].split(BETWEEN) if is_run(command) else [command]


def _holds_one(text):
    """Whether the text is a command other than a run."""
    words = text.split(" ")
    if words[0] not in FORMS or len(words) != 1 + len(FORMS[words[0]]):
        return False
    return all([_holds_word(kind, word) for kind, word in zip(FORMS[words[0]], words[1:])])


def _holds_word(kind, word):
    if kind == "name":
        return 1 <= len(word) <= MOST_NAME_LETTERS and all([sign in NAME_LETTERS for sign in word])
    if kind == "key":
        return len(word) == 1 and word in LETTERS
    if kind == "bound":
        return _holds_digits(word, MOST_BOUND_DIGITS)
    if kind == "worth" and word.startswith("-"):
        return _holds_digits(word[1:], MOST_DIGITS) and word != "-0"
    if kind == "worth":
        return _holds_digits(word, MOST_DIGITS)
    return word != ""


def _holds_digits(word, most):
    """Whether the word is a number of at most so many digits, without needless zeros ahead."""
    if not 1 <= len(word) <= most or not all([sign in DIGITS for sign in word]):
        return False
    return word == "0" or word[0] != "0"


def text_meant(word):
    """The text for which the word stands."""
    return "" if word == EMPTY else word


def word_for(text):
    """The word, or the answer, that stands for the text."""
    return EMPTY if text == "" else text


def deed_command(deed):
    """The command of the deed."""
    name = deed[0]
    if name == "put":
        return f"put {LETTERS[deed[1]]} {deed[2]}"
    if name == "take_in":
        return f"in {word_for(text_of_store(deed[1]))}"
    keys = [letters_of((key,)) for key in deed[1:]]
    return " ".join([name] + keys)


def first_command(name, ranking, bound):
    """The command that makes a live store with no deeds stand by the name, a low one unless the bound is None."""
    word = word_for(text_of_ranking(ranking))
    return f"open {name} {word}" if bound is None else f"low {name} {bound} {word}"
