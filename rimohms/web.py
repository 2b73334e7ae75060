"""Webs: which nodes are joined by what amounts, whatever the drawing.

A web is a dict that gives for each node a dict of its neighbours, each with
the amount of all that joins them.
"""

from itertools import combinations

from rimohms.netmap import ends_of
from rimohms.ratio import ZERO, over, plus, times, total


def web_of(net):
    """Returns the web of a net."""
    joints = [(one, other, amount) for (one, other), amount in zip(ends_of(net), net[2])]
    return web_from(list(range(1, len(net[1]) + 1)), joints)


def web_from(nodes, joints):
    """Returns the web of a list of nodes and a list of joints (node, node, amount), with amounts above 0."""
    web = {node: {} for node in nodes}
    for one, other, amount in joints:
        # A loop carries no current, since it has one voltage at both ends.
        if one != other:
            joint = plus(web[one].get(other, ZERO), amount)
            web[one][other] = joint
            web[other][one] = joint
    return web


def without(web, node):
    """Returns the web without a node that nothing touches, in which all others still have the same currents."""
    around = web[node]
    rest = {left: {near: web[left][near] for near in web[left] if near != node} for left in web if left != node}
    whole = total(list(around.values()))
    for one, other in combinations(list(around), 2):
        share = over(times(around[one], around[other]), whole)
        joint = plus(rest[one].get(other, ZERO), share)
        rest[one][other] = joint
        rest[other][one] = joint
    return rest


def thinned(web, kept):
    """Takes all nodes but those of a list out of a web.

    Returns the list of the steps, each a pair of a node and the neighbours
    that it had when it was taken out, and the web that is left.
    """
    steps = []
    while len(web) > len(kept):
        node = least_joined(web, kept)
        steps.append((node, web[node]))
        web = without(web, node)
    return steps, web


def least_joined(web, kept):
    """Returns a node outside of kept with the fewest neighbours, since it leaves the fewest new joints."""
    return min([node for node in web if node not in kept], key=lambda place: len(web[place]))
