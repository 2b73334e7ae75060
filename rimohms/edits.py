"""Tables of nets that are changed or put together."""

from itertools import combinations

from rimohms.errors import TableError
from rimohms.measure import table_in, table_of
from rimohms.moves import with_amounts
from rimohms.ratio import ZERO, opposite
from rimohms.web import web_from


def changed_table(table, net, edge, amount):
    """Returns the table of the net that differs in the amount of one edge; table is that of the net."""
    if net[2][edge] == amount:
        return table
    # The table alone does not tell what an edge inside has done to it, so the net is measured anew.
    return table_of(with_amounts(net, {edge: amount}))


def merged_table(pieces, kept):
    """Returns the table of nets that are put together, for the kept names. Raises TableError for one in no piece."""
    names = [name for _, places in pieces for name in places]
    for name in kept:
        if name not in names:
            raise TableError("a kept name is in no piece")
    joints = [joint for table, places in pieces for joint in joints_of(table, places)]
    return table_in(web_from(names, joints), kept)


def joints_of(table, places):
    """Returns the list of the joints (name, name, amount) of edges between rim nodes that have a table."""
    # An edge for each entry off the diagonal has the table, though its edges may cross.
    return [
        (places[i], places[j], opposite(table[i][j]))
        for i, j in combinations(range(len(places)), 2)
        if table[i][j] != ZERO
    ]
