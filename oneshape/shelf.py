"""Live stores that stand by names, one of them chosen."""

from oneshape.errors import NotReady


class Shelf:
    """Live stores by their names, and the name of the chosen one, or None."""

    def __init__(self):
        self._lives = {}
        self._chosen = None

    def stand(self, name, live):
        """The live store stands by the name, in the place of one that stood there."""
        self._lives[name] = live

    def choose(self, name):
        """The one by the name is the chosen one."""
        self.live_by(name)
        self._chosen = name

    def forget(self, name):
        """None stands by the name any more."""
        self.live_by(name)
        del self._lives[name]
        if self._chosen == name:
            self._chosen = None

    def live_by(self, name):
        """The live store that stands by the name."""
        if name not in self._lives:
            raise NotReady("no live store stands by this name")
        return self._lives[name]

    def chosen_name(self):
        """The name of the chosen one."""
        if self._chosen is None:
            raise NotReady("no live store is chosen")
        return self._chosen

    def chosen(self):
        """The chosen one."""
        return self._lives[self.chosen_name()]

    def twin(self):
        """An independent shelf with the same names, choice, deeds and open spans."""
        other = Shelf()
        names = list(self._lives)
        for name in names:
            other.stand(name, self._lives[name].spanned_twin())
        other._chosen = self._chosen
        return other
