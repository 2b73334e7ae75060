"""A laboratory that keeps nets by name, each with its table."""

from rimohms.compare import alike
from rimohms.edits import changed_table, merged_table
from rimohms.errors import NetError, RimError
from rimohms.measure import table_of
from rimohms.moves import apply_move, with_amounts
from rimohms.ratio import is_ratio
from rimohms.rebuild import rebuild
from rimohms.reduction import fewest
from rimohms.texts import parse_net, show_net


class Lab:
    """Nets by name, each with its table."""

    def __init__(self):
        self.shelf = {}

    def read(self, name, text):
        """Keeps the net of a text under a name. Raises what parse_net raises."""
        net = parse_net(text)
        self.shelf[name] = (net, table_of(net))

    def net(self, name):
        """Returns the net with a name."""
        net, _ = self.kept_under(name)
        return net

    def text(self, name):
        """Returns the text of the net with a name."""
        return show_net(self.net(name))

    def table(self, name):
        """Returns the table of the net with a name."""
        _, table = self.kept_under(name)
        return table

    def move(self, name, move):
        """Does a move on the net with a name. Raises MoveError."""
        net, table = self.kept_under(name)
        self.shelf[name] = (apply_move(net, move), table)

    def change(self, name, edge, amount):
        """Gives an edge of the net with a name another amount. Raises NetError."""
        net, table = self.kept_under(name)
        if edge < 0 or edge >= len(net[2]):
            raise NetError("there is no such edge")
        if not is_ratio(amount) or amount[0] <= 0:
            raise NetError("the amount is no ratio above 0")
        self.shelf[name] = (with_amounts(net, {edge: amount}), changed_table(table, net, edge, amount))

    def shrink(self, name):
        """Leads the net with a name to one with the fewest edges, and returns the tuple of moves."""
        net, table = self.kept_under(name)
        moves, goal = fewest(net)
        self.shelf[name] = (goal, table)
        return moves

    def same(self, name, second):
        """Returns the answer of alike for the nets with two names, or None if their rims differ in size."""
        net, other = self.net(name), self.net(second)
        if net[0] != other[0]:
            return None
        return alike(net, other)

    def merge(self, name, pieces, kept):
        """Keeps under a name a net with the fewest edges that has the table of merged_table. Raises TableError."""
        table = merged_table([(self.table(piece), places) for piece, places in pieces], kept)
        self.shelf[name] = (rebuild(table), table)

    def names(self):
        """Returns the list of the names of all nets, in ascending order."""
        return sorted(self.shelf)

    def kept_under(self, name):
        """Returns the pair of the net with a name and its table. Raises RimError if there is none."""
        if name not in self.shelf:
            raise RimError("there is no net with this name")
        return self.shelf[name]
