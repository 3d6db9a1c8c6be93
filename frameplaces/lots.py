"""Which lots are right, for all runs of a program."""

from frameplaces.cases import find_cases
from frameplaces.layouts import check_layout


def wrong_run(program, lot):
    """The choices of a run with a wrong event for a lot after as few lines as possible, or None."""
    check_layout(program.cells, [lot])
    cases = find_cases(program)
    sight = cases.first_wrong(lot)
    return None if sight is None else cases.way_through(sight)


def is_right(program, lot):
    """Whether a lot is right."""
    return wrong_run(program, lot) is None


def wrong_lines(program, lot):
    """The ascending list of the lines that have a wrong event for a lot in some run."""
    check_layout(program.cells, [lot])
    cases = find_cases(program)
    return sorted(set([sight.line for sight in cases.sights if cases.is_wrong(sight, lot)]))


def right_lots(program):
    """The ascending list of all right lots of two or more cells."""
    cases = find_cases(program)
    return [lot for lot in _lots_of(sorted(program.cells)) if cases.first_wrong(lot) is None]


def _lots_of(names):
    """The ascending list of the lots of two or more of some names, which are in ascending order."""
    lots = [[]]
    for name in names:
        lots = lots + [[*lot, name] for lot in lots]
    return sorted([lot for lot in lots if len(lot) > 1])
