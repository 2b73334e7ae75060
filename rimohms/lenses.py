"""Lenses of a net, and the stars and triangles that make them smaller.

The strands cut the disc into cells: one cell for each node and one for each
face. All cells at the rim are taken as one here. A wall is the piece of a
strand between two crossings; it parts the cell of a node from that of a face
where these meet between two darts, and it has the number of that dart behind
which, clockwise, the other one comes.

A lens is what a strand that comes back to an edge encloses, or what two
pieces of strands between the same two edges enclose.
"""

from itertools import combinations

from rimohms.netmap import comes_back, homes_of, next_in_disc, other_dart, walk_left
from rimohms.strands import edges_crossed, strands_of, visits_of

RIM = ("rim", 0)


def shrinking_move(net):
    """Returns a move star or triangle that takes a cell from a smallest lens, and keeps its other cells.

    The net has a lens, and none of one cell.
    """
    sides = sides_of(net)
    lenses = [(enclosed(sides, walls), walls) for walls in lens_walls(net)]
    cells, walls = min(lenses, key=lambda lens: len(lens[0]))
    # In a smallest lens no two strands cross twice; it has a triangle at its border (Steinitz).
    for cell in [cell for wall in walls for cell in sides[wall]]:
        if cell in cells and side_count(sides, cell) == 3:
            return cell_move(cell)
    return None


def cell_move(cell):
    """Returns the move star or triangle for a cell with three walls that does not come to the rim."""
    kind, number = cell
    return ("star", number) if kind == "node" else ("triangle", number)


def sides_of(net):
    """Returns a dict with the pair of the cells, of a node and of a face, that each wall parts."""
    faces = faces_of(net)
    return {dart: (node_cell(net, node), faces[other_dart(dart)]) for dart, node in homes_of(net).items()}


def node_cell(net, node):
    """Returns the cell of a node."""
    if node <= net[0]:
        return RIM
    return ("node", node)


def faces_of(net):
    """Returns a dict with the cell of the face to the left of each dart; it has the number of its least dart."""
    ahead = next_in_disc(net)
    faces = {}
    for dart in sorted(ahead):
        if dart in faces:
            continue
        walk = walk_left(ahead, dart)
        cell = ("face", dart) if comes_back(ahead, walk) else RIM
        for step in walk:
            faces[step] = cell
    return faces


def side_count(sides, cell):
    """Returns the number of walls around a cell."""
    return len([wall for wall in sides if cell in sides[wall]])


def enclosed(sides, walls):
    """Returns the list of the cells that walls part from the rim."""
    near = {cell: [] for pair in sides.values() for cell in pair}
    near[RIM] = []
    for wall in sides:
        if wall not in walls:
            one, other = sides[wall]
            near[one].append(other)
            near[other].append(one)
    reached = {RIM: True}
    waiting = [RIM]
    while waiting:
        cell = waiting.pop()
        for other in near[cell]:
            if other not in reached:
                reached[other] = True
                waiting.append(other)
    return [cell for cell in near if cell not in reached]


def lens_walls(net):
    """Returns a list with the list of the walls of each lens."""
    strands = strands_of(net)
    visits = visits_of(strands)
    pieces = []
    for edge in visits:
        one, other = visits[edge]
        pieces.extend([[piece] for piece in pieces_between(strands, one, other)])
    for edge, far in combinations(sorted(visits), 2):
        one, other = visits[edge]
        for near_one, near_other in (visits[far], visits[far][::-1]):
            firsts = pieces_between(strands, one, near_one)
            seconds = pieces_between(strands, other, near_other)
            pieces.extend([[first, second] for first in firsts for second in seconds])
    return [walls_along(lens) for lens in pieces if is_simple(lens)]


def pieces_between(strands, one, other):
    """Returns the list of the pieces of strands, lists of crossings, between two visits: none, one or two."""
    if one[0] != other[0]:
        return []
    ends, crossings = strands[one[0]]
    low, high = sorted([one[1], other[1]])
    pieces = [crossings[low:high + 1]]
    if ends is None:
        pieces.append(crossings[high:] + crossings[:low + 1])
    return pieces


def is_simple(lens):
    """Returns True if the pieces of a lens meet at no edge but where they begin and end."""
    crossed = [edges_crossed(piece) for piece in lens]
    inner = [edge for edges in crossed for edge in edges[1:-1]]
    corners = (crossed[0][0], crossed[0][-1])
    return len(set(inner)) == len(inner) and all([corner not in inner for corner in corners])


def walls_along(lens):
    """Returns the list of the walls of the pieces of a lens."""
    return [wall_between(one, other) for piece in lens for one, other in zip(piece, piece[1:])]


def wall_between(one, other):
    """Returns the wall between a crossing and the next one."""
    dart, to_right = one
    # To the right of an edge, the strand goes on counterclockwise at the node ahead.
    if to_right:
        return other[0]
    return other_dart(dart)
