"""Colours: which rings and cuts suit them."""
from signcleave.errors import BadColours, BadMark
from signcleave.flats import check_things
from signcleave.rings import cuts, rings
from signcleave.signs import check_row

RING_SIGNS = {"+": (0, 1), "-": (-1, 0), "*": (-1, 0, 1), "0": (0,)}
CUT_SIGNS = {"+": (0, 1), "-": (-1, 0), "*": (0,), "0": (-1, 0, 1)}


def suits_ring(row, colours):
    """Whether a ring with these signs suits the colours."""
    check_row(row, len(row))
    _check_colours(colours, len(row))
    return all([sign in RING_SIGNS[colour] for sign, colour in zip(row, colours)])


def suits_cut(row, colours):
    """Whether a cut with these signs suits the colours."""
    check_row(row, len(row))
    _check_colours(colours, len(row))
    return all([sign in CUT_SIGNS[colour] for sign, colour in zip(row, colours)])


def ring_or_cut(house, colours, mark):
    """("ring", row) or ("cut", row), one that suits and isn't nought at the mark."""
    _check_colours(colours, house.things())
    check_things(house, [mark])
    if colours[mark] not in ("+", "-"):
        raise BadMark(f"thing {mark} is neither + nor -")
    for ring in rings(house):
        if ring[mark] != 0 and suits_ring(ring, colours):
            return ("ring", ring)
    # Where no ring suits there always is a cut that does.
    suiting = [cut for cut in cuts(house) if cut[mark] != 0 and suits_cut(cut, colours)]
    return ("cut", suiting[0])


def _check_colours(colours, many):
    if len(colours) != many:
        raise BadColours(f"{many} colours are wanted, not {len(colours)}")
    if any([colour not in RING_SIGNS for colour in colours]):
        raise BadColours("the colours are + and - and * and 0")
