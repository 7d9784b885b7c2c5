"""Tallies, which are told the steps that are done in a yard."""

from grainyard.heaps import turned
from grainyard.lengths import added, scaled
from grainyard.steps import side_of


def cuts_of(step):
    """The number of cuts that a saw or split step makes, 0 for another step."""
    if step[0] == "saw":
        return step[-1]
    if step[0] == "split":
        return (step[3] - 1) * step[-1]
    return 0


def sawn_by(step):
    """The sum of the lengths of all cuts of a step, a pair."""
    cuts = cuts_of(step)
    if cuts == 0:
        return 0, 0
    # A cut runs along the side that stays.
    return scaled(side_of(turned(step[1]), step[2]), cuts)


class Tally:
    """A tally that counts the steps that it is told."""

    def __init__(self):
        self.notes = 0
        self.words = {}

    def note(self, step):
        """Tell it a step."""
        word = step[0]
        self.notes += 1
        self.words[word] = self.words.get(word, 0) + 1

    def counts(self):
        """A dict from the words of the steps that it was told to how often it was told one."""
        return dict(self.words)


class Journal(Tally):
    """A tally that keeps the steps."""

    def __init__(self):
        super().__init__()
        self.kept = []

    def note(self, step):
        """Tell it a step."""
        super().note(step)
        self.kept.append(step)

    def told(self):
        """The list of all steps that it was told, in order."""
        return list(self.kept)


class CutTally(Journal):
    """A journal that adds up the lengths of all cuts."""

    def __init__(self):
        super().__init__()
        self.sawn = (0, 0)

    def note(self, step):
        """Tell it a step."""
        super().note(step)
        self.sawn = added(self.sawn, sawn_by(step))

    def told(self):
        """The list of all steps that it was told, in order."""
        return super().told()
