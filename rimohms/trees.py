"""The weights of all rooted forests and of all trees of a net."""

from rimohms.measure import rim_nodes
from rimohms.ratio import ONE, times, total
from rimohms.web import thinned, web_of


def forest_weight(net):
    """Returns the sum of the weights of all rooted forests."""
    return rooted_weight(net, rim_nodes(net))


def tree_weight(net):
    """Returns the sum of the weights of all trees; 0 if not all nodes are joined."""
    return rooted_weight(net, [1])


def rooted_weight(net, roots):
    """Returns the sum of the weights of all sets of edges without a circle that join each node with just one root."""
    steps, _ = thinned(web_of(net), roots)
    weight = ONE
    # The sum is a determinant, and the amounts around a node when it is taken out are a pivot of it:
    # a node that nothing joins with a root is alone in the end and gives the factor 0.
    for _, around in steps:
        weight = times(weight, total(list(around.values())))
    return weight
