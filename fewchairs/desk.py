"""Desks: they understand lines, and their steps may be undone and done again."""

from fewchairs.errors import BadLine, HallError, NothingToUndo
from fewchairs.lineforms import form_of, told_by
from fewchairs.linework import done

SORTS = {"house": "HOUSE", "custom": "CUSTOM", "hall": "HALL", "come": "HALL", "again": "HALL"}


class Desk:
    """A desk without names at first.

    A step is a list with one tuple for each of its lines: the line, the name that it is about, and what the name
    stood for before and afterwards, each as `lineforms` tells of things, or None.
    """

    def __init__(self):
        self._things = {}
        self._steps = []
        self._undone = []

    @property
    def lines(self):
        """The list of the lines of all steps that are not undone."""
        return [change[0] for step in self._steps for change in step]

    @property
    def names(self):
        """The ascending list of all names."""
        return sorted(self._things)

    def tell(self, line):
        """The answer of one line."""
        return self._take([line])[0]

    def run(self, text):
        """The list of the answers of the lines of a text."""
        return self._take(text.split("\n"))

    def undo(self):
        """Undoes the last step; the list of its lines."""
        if not self._steps:
            raise NothingToUndo("undo")
        step = self._steps.pop()
        self._undone.append(step)
        for change in step[::-1]:
            self._put(change[1], change[2])
        return [change[0] for change in step]

    def redo(self):
        """Does the step again that was undone last; the list of its lines."""
        if not self._undone:
            raise NothingToUndo("redo")
        step = self._undone.pop()
        self._steps.append(step)
        for change in step:
            self._put(change[1], change[3])
        return [change[0] for change in step]

    def _put(self, name, thing):
        """Lets the name stand for the thing of its sort, or for nothing if it is None."""
        if thing is None:
            del self._things[name]
        else:
            self._things[name] = thing

    def _take(self, lines):
        """The list of the answers of the lines, which are all taken or none."""
        things = dict(self._things)
        answers = []
        step = []
        for at, line in enumerate(lines):
            answer, thing = _taken(at + 1, line, things)
            answers.append(answer)
            if thing is not None:
                word, name = line.split(" ")[:2]
                after = (SORTS[word], thing)
                step.append((line, name, things.get(name), after))
                things[name] = after
        if step:
            self._things = things
            self._steps.append(step)
            self._undone = []
        return answers


def _taken(number, line, things):
    """The pair of the answer of the line and of the thing that it makes or changes, or None."""
    form = form_of(number, line)
    told = told_by(number, form, line, things)
    try:
        return done(form, told)
    except HallError:
        raise BadLine(number, "value") from None
