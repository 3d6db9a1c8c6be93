"""Layouts that are right for all runs, and the smallest frames."""

from frameplaces.cases import find_cases
from frameplaces.layouts import check_layout
from frameplaces.lots import right_lots


def is_right_layout(program, layout):
    """Whether a layout is right."""
    check_layout(program.cells, layout)
    cases = find_cases(program)
    return all([cases.first_wrong(lot) is None for lot in layout])


def smallest_frames(program):
    """The ascending list of all frames with as few lots as possible."""
    names = sorted(program.cells)
    lots = sorted([[name] for name in names] + right_lots(program))
    frames = _frames_of(names, lots)
    least = min([len(frame) for frame in frames])
    return [frame for frame in frames if len(frame) == least]


def _frames_of(names, lots):
    """The ascending list of all ways to divide names, which are in ascending order, into some of the lots.

    Each frame has lists of its own, since callers may change them.
    """
    if len(names) == 0:
        return [[]]
    frames = []
    for lot in lots:
        if lot[0] == names[0] and all([name in names for name in lot]):
            rest = [name for name in names if name not in lot]
            frames.extend([[list(lot), *frame] for frame in _frames_of(rest, lots)])
    return frames
