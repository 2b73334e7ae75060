"""Measures of a net: its table, and what its nodes and edges have for given voltages of the rim."""

from rimohms.netmap import ends_of
from rimohms.ratio import ONE, ZERO, minus, opposite, over, times, total
from rimohms.web import thinned, web_of


def table_of(net):
    """Returns the table of a net."""
    return table_in(web_of(net), rim_nodes(net))


def table_in(web, nodes):
    """Returns the table that a web has for a list of its nodes, while nothing touches the others."""
    _, rest = thinned(web, nodes)
    return tuple([tuple([entry(rest[node], node, other) for other in nodes]) for node in nodes])


def entry(around, node, other):
    """Returns the current into a node with these neighbours while the other one alone has the voltage 1."""
    if node == other:
        return total(list(around.values()))
    return opposite(around.get(other, ZERO))


def rim_nodes(net):
    """Returns the list of the rim nodes."""
    return list(range(1, net[0] + 1))


def voltages(net, given):
    """Returns the list of the voltages of all nodes for a list of voltages of the rim nodes."""
    steps, _ = thinned(web_of(net), rim_nodes(net))
    found = dict(enumerate(given, start=1))
    # A node had neighbours only among those that were taken out behind it, so the last one comes first.
    for node, around in reversed(steps):
        flow = total([times(around[near], found[near]) for near in around])
        found[node] = over(flow, total(list(around.values())))
    return [found[node] for node in range(1, len(net[1]) + 1)]


def currents(net, given):
    """Returns the list of the currents along all edges."""
    values = voltages(net, given)
    drops = [minus(values[one - 1], values[other - 1]) for one, other in ends_of(net)]
    return [times(amount, drop) for amount, drop in zip(net[2], drops)]


def power(net, given):
    """Returns the power of a net for a list of voltages of the rim nodes."""
    flows = currents(net, given)
    return total([over(times(flow, flow), amount) for flow, amount in zip(flows, net[2])])


def resistance(net, first, second):
    """Returns the resistance between two nodes, 0 if they are the same, or None if they are not joined."""
    if first == second:
        return ZERO
    _, web = thinned(web_of(net), [first, second])
    if second not in web[first]:
        return None
    return over(ONE, web[first][second])
