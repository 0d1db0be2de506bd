"""Slides along a loop, repeated any number of times."""

from elderways.errors import NotLoop
from elderways.houses import as_house, crossing, with_replaced
from elderways.permutations import order, power
from elderways.slides import apply_slide, moved


def check_repeatable(house, slide):
    """Raise the errors of the slide, then NotLoop if the older passage leads to another room."""
    apply_slide(house, slide)
    start, end, _ = house[2][slide[2]]
    if start != end:
        raise NotLoop(slide[2])


def apply_repeated(house, slide, times):
    """Return the house after a slide along a loop is applied that many times."""
    check_repeatable(house, slide)
    index, side, older, direction = slide
    current = as_house(house)
    _, leads, effect = crossing(current[2][older], direction)
    passage = moved(current[2][index], side, leads, power(effect, times))
    return with_replaced(current, index, passage)


def period(house, slide):
    """Return the least positive number of times that leaves the house unchanged."""
    check_repeatable(house, slide)
    # Each time composes the slid passage with the loop's permutation or its inverse once more.
    return order(house[2][slide[2]][2])
