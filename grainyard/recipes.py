"""Recipes: lists of steps that are applied, joined, reversed and multiplied."""

from grainyard.errors import BadCount, BadStep
from grainyard.steps import apply_steps, back_of, is_allowed


def check_allowed(steps, turning):
    """Raise BadStep with the index of the first item that is not a step, or a turn that is not allowed."""
    for at, step in enumerate(steps):
        if not is_allowed(step, turning):
            raise BadStep(at)


def with_copies(step, number):
    """A step with its copies multiplied by a number."""
    return step[:-1] + (step[-1] * number,)


class Recipe:
    """A list of steps, with or without turning; it does not change."""

    def __init__(self, steps=(), *, turning=False):
        check_allowed(steps, turning)
        self.listed = list(steps)
        self.allowed = turning

    def steps(self):
        """The list of the steps."""
        return list(self.listed)

    @property
    def turning(self):
        """Whether turning is allowed."""
        return self.allowed

    def __call__(self, heap):
        return apply_steps(heap, self.listed, turning=self.allowed)

    def __add__(self, other):
        return Recipe(self.listed + other.listed, turning=self.allowed or other.allowed)

    def __neg__(self):
        return Recipe([back_of(step) for step in self.listed[::-1]], turning=self.allowed)

    def __mul__(self, other):
        if other < 1:
            raise BadCount(other)
        return Recipe([with_copies(step, other) for step in self.listed], turning=self.allowed)

    def __eq__(self, other):
        return isinstance(other, Recipe) and self.listed == other.listed and self.allowed == other.allowed

    def __len__(self):
        return len(self.listed)

    def __repr__(self):
        return f"Recipe({len(self.listed)} steps)"
