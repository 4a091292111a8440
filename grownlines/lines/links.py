"""What comes from each step, with the places where it begins."""

from grownlines.base.points import turned_by


def links_of(scheme):
    """The dict from each step that lines may have to what comes from it, told from where the step begins.

    That is the list of the pairs of the place where a new step begins, and of this step.
    """
    grid = scheme.grid
    steps = [(letter, direction) for letter in scheme.used for direction in range(len(grid.units))]
    links = {}
    for letter, direction in steps:
        starts = [turned_by(grid, start, direction) for start in scheme[letter].starts]
        links[(letter, direction)] = list(zip(starts, scheme[letter].drawn(direction)))
    return links
