"""Cells that could share a place if one looked only at their blocks, and moving cells until they can.

Moving a cell outwards leaves the blocks as they are. So a cell that is moved by some blocks is told by the blocks
around it without as many of the innermost ones.
"""

from frameplaces.cases import find_cases


def plain_pairs(program):
    """The ascending list of the pairs of plain cells."""
    around = _blocks_by_name(program)
    return [(one, other) for one, other in _pairs_of(program) if _are_plain(around[one], around[other])]


def wrong_pairs(program):
    """The ascending list of the pairs of cells that are no right lot."""
    cases = find_cases(program)
    return [pair for pair in _pairs_of(program) if cases.first_wrong(pair) is not None]


def lengthen(program):
    """The least number of blocks by which cells must be moved outwards in all, and all ways with so many."""
    around = _blocks_by_name(program)
    wrong = wrong_pairs(program)
    enough = [way for way in _ways_to_move(around) if not _leaves_plain(around, way, wrong)]
    least = min([sum(way.values()) for way in enough])
    ways = [way for way in enough if sum(way.values()) == least]
    return least, sorted([[(name, way[name]) for name in way if way[name] > 0] for way in ways])


def _blocks_by_name(program):
    """The blocks around each cell, the cells in ascending order."""
    return {name: program.sheet.blocks_around(name) for name in sorted(program.cells)}


def _pairs_of(program):
    """The ascending list of the pairs of cells."""
    names = sorted(program.cells)
    return [(one, other) for at, one in enumerate(names) for other in names[at + 1:]]


def _are_plain(around_one, around_other):
    """Whether two cells are plain, by the blocks around each."""
    return around_one[0] not in around_other and around_other[0] not in around_one


def _ways_to_move(around):
    """All ways to move cells: for each cell a number of blocks, which may be 0."""
    ways = [{}]
    for name in around:
        ways = [{**way, name: many} for way in ways for many in range(len(around[name]))]
    return ways


def _leaves_plain(around, way, pairs):
    """Whether the cells of one of the pairs are plain after they are moved."""
    return any([_are_plain(around[one][way[one]:], around[other][way[other]:]) for one, other in pairs])
