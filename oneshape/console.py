"""A console: live stores by their names, told by commands what to do."""

from oneshape.commands import (
    BETWEEN,
    commands_of,
    deed_command,
    first_command,
    holds_command,
    is_run,
    text_meant,
    word_for,
)
from oneshape.errors import InvalidCommand
from oneshape.letters import LETTERS, letters_of
from oneshape.live import Live, LowLive
from oneshape.paper_texts import paper_text, ranking_told, store_text, store_told
from oneshape.shelf import Shelf
from oneshape.trees import tree_text

DONE = "ok"


# Each of the functions that follow executes the command it is called by, with these words
# behind the first one, and returns the answer.
def _open_live(shelf, words):
    name, word = words
    shelf.stand(name, Live(ranking_told(text_meant(word)), ()))
    shelf.choose(name)
    return DONE


def _open_low(shelf, words):
    name, bound, word = words
    ranking = ranking_told(text_meant(word))
    shelf.stand(name, LowLive(ranking, (), int(bound)))
    shelf.choose(name)
    return DONE


def _use(shelf, words):
    shelf.choose(words[0])
    return DONE


def _twin(shelf, words):
    shelf.stand(words[0], shelf.chosen().twin())
    return DONE


def _forget(shelf, words):
    shelf.forget(words[0])
    return DONE


def _same(shelf, words):
    return "yes" if shelf.chosen() == shelf.live_by(words[0]) else "no"


def _put(shelf, words):
    letter, worth = words
    return str(shelf.chosen().put(LETTERS.index(letter), int(worth)))


def _take(shelf, words):
    return str(shelf.chosen().take(LETTERS.index(words[0])))


def _cut(shelf, words):
    letter, other_letter = words
    return str(shelf.chosen().cut(LETTERS.index(letter), LETTERS.index(other_letter)))


def _take_in(shelf, words):
    live = shelf.chosen()
    return letters_of(live.take_in(store_told(text_meant(words[0]))))


def _undo(shelf, words):
    return deed_command(shelf.chosen().undo())


def _begin(shelf, words):
    shelf.chosen().begin()
    return DONE


def _keep(shelf, words):
    shelf.chosen().keep()
    return DONE


def _drop(shelf, words):
    shelf.chosen().drop()
    return DONE


def _show(shelf, words):
    return word_for(store_text(shelf.chosen().store))


def _tree(shelf, words):
    return tree_text(shelf.chosen().tree())


def _way(shelf, words):
    return word_for(letters_of(shelf.chosen().way(LETTERS.index(words[0]))))


def _changed(shelf, words):
    return word_for(letters_of(shelf.chosen().changed()))


def _height(shelf, words):
    return str(shelf.chosen().height())


def _moments(shelf, words):
    rows = [[str(number) for number in row] for row in shelf.chosen().moments()]
    return " ".join(["=".join(row) for row in rows])


def _where(shelf, words):
    live = shelf.chosen()
    return f"{len(live.store)} {len(live.deeds)} {live.depth}"


def _paper(shelf, words):
    live = shelf.chosen()
    return paper_text(("differ", live.start, live.store, live.changed()))


def _journal(shelf, words):
    live = shelf.chosen()
    bound = live.bound if isinstance(live, LowLive) else None
    told = [first_command(shelf.chosen_name(), live.ranking, bound)]
    return BETWEEN.join(told + [deed_command(deed) for deed in live.deeds])


ACTIONS = {
    "open": _open_live,
    "low": _open_low,
    "use": _use,
    "twin": _twin,
    "forget": _forget,
    "same": _same,
    "put": _put,
    "take": _take,
    "cut": _cut,
    "in": _take_in,
    "undo": _undo,
    "begin": _begin,
    "keep": _keep,
    "drop": _drop,
    "show": _show,
    "tree": _tree,
    "way": _way,
    "changed": _changed,
    "height": _height,
    "moments": _moments,
    "where": _where,
    "paper": _paper,
    "journal": _journal,
}


def _answer(shelf, command):
    """The answer of a command other than a run."""
    words = command.split(" ")
    action = ACTIONS[words[0]]
    return action(shelf, words[1:])


class Console:
    """Executes commands."""

    def __init__(self):
        self._shelf = Shelf()

    def execute(self, command):
        """The answer of the command."""
        if not holds_command(command):
            raise InvalidCommand("this is no command")
        if not is_run(command):
            return _answer(self._shelf, command)
        # A run is done on a twin of the shelf, so that it leaves no trace if one of its commands fails.
        shelf = self._shelf.twin()
        told = []
        for part in commands_of(command):
            told.append(_answer(shelf, part))
        self._shelf = shelf
        return BETWEEN.join(told)
