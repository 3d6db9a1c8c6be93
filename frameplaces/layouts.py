"""Lots and layouts, as callers pass them."""

from frameplaces.errors import BadLot, NoCell


def check_layout(cells, layout):
    """Raise the error that a layout of these cells deserves, if any."""
    for lot in layout:
        for name in lot:
            if name not in cells:
                raise NoCell(name)
    met = {}
    for index, lot in enumerate(layout):
        if len(lot) == 0:
            raise BadLot(index)
        for name in lot:
            if name in met:
                raise BadLot(index)
            met[name] = True


def places_in(cells, layout):
    """The place of each cell in a layout, as a dict of numbers."""
    places = {cell: number for number, cell in enumerate(cells)}
    for lot in layout:
        for cell in lot:
            places[cell] = places[lot[0]]
    return places
