"""Benches: a Post under hands, with deeds that can be undone, done again, and tried."""
from crossingstold.errors import BadTask, NoBlock, NothingToRedo, NothingToUndo
from crossingstold.keeping import Post
from crossingstold.tasks import do_task, task_in


class Bench:
    """A Post of a WATCH, and the lines of the deeds that made it what it is."""

    def __init__(self, watch):
        # One Post more than lines: how it stood at first, and behind each deed. None of them changes any more.
        self._posts = (Post(watch),)
        self._lines = ()
        # The deeds that can be done again, (line, Post) each, the next one last.
        self._undone = ()
        # Whether the innermost trial is to be kept; None outside of all trials.
        self._keeping = None
        self.watch = watch
        self.deeds = 0

    def __eq__(self, other):
        if not isinstance(other, Bench):
            return False
        return self.watch == other.watch and self._lines == other._lines

    def __len__(self):
        return len(self._posts[-1].reports)

    def lines(self):
        """The lines of all deeds that stand, in sequence."""
        return self._lines

    def post(self):
        """A Post that stands as this one does, by itself."""
        return self._posts[-1].copy()

    def _stand(self, posts, lines, undone):
        """From now on these deeds stand, and those can be done again."""
        self._posts = posts
        self._lines = lines
        self._undone = undone
        self.deeds = len(lines)

    def do(self, line):
        """Does what a line tells."""
        task = task_in(line)
        if task is None:
            raise BadTask(line)
        changed = self.post()
        do_task(changed, task)
        self._stand((*self._posts, changed), (*self._lines, line), ())

    def undo(self):
        """Takes back the last deed that stands."""
        if not self._lines:
            raise NothingToUndo(None)
        last = (self._lines[-1], self._posts[-1])
        self._stand(self._posts[:-1], self._lines[:-1], (*self._undone, last))

    def redo(self):
        """Does the deed again that was taken back last."""
        if not self._undone:
            raise NothingToRedo(None)
        line, changed = self._undone[-1]
        self._stand((*self._posts, changed), (*self._lines, line), self._undone[:-1])

    def tried(self, look, *, keep=False):
        """What look tells of the bench, which stands behind it as ahead of it, unless it is kept."""
        posts, lines, undone, deeds = self._posts, self._lines, self._undone, self.deeds
        around = self._keeping
        self._keeping = False
        try:
            told = look(self)
            if keep is True or self._keeping:
                posts, lines, undone, deeds = self._posts, self._lines, self._undone, self.deeds
        finally:
            self._posts, self._lines, self._undone, self.deeds = posts, lines, undone, deeds
            self._keeping = around
        return told

    def keep(self):
        """The innermost trial is kept."""
        if self._keeping is None:
            raise NoBlock(None)
        self._keeping = True

    def copy(self):
        """A Bench by itself, alike in all things, outside of all trials."""
        twin = Bench(self.watch)
        twin._stand(self._posts, self._lines, self._undone)
        return twin
