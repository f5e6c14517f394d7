"""Nets: as many units as there is room for, sent from one node to another one at the least cost."""


class Net:
    """Nodes from 0 on, and how much room is left from each one to each other one, at which cost a unit."""

    def __init__(self, nodes):
        self._room = [[0] * nodes for _ in range(nodes)]
        self._cost = [[0] * nodes for _ in range(nodes)]

    def lay(self, one, other, room, cost):
        """Lets so many units go from one node to another one; there is no way back between them."""
        self._room[one][other] = room
        self._cost[one][other] = cost
        self._cost[other][one] = -cost

    def room_left(self, one, other):
        """How many units more can go from one node to another one."""
        return self._room[one][other]

    def send_all(self, source, goal):
        """Sends as many units as there is room for, at the least cost."""
        # Units that go one by one, each at the least cost, go together at the least cost.
        ahead = self._cheapest({source: 0})[1]
        while goal in ahead:
            node = goal
            while node != source:
                self._send(ahead[node], node)
                node = ahead[node]
            ahead = self._cheapest({source: 0})[1]

    def costs_from(self, starts):
        """The dict from the nodes to the least cost at which a further unit comes there, from starts with costs."""
        return self._cheapest(starts)[0]

    def _send(self, one, other):
        """Sends one unit, which can go back at what it cost."""
        self._room[one][other] = self._room[one][other] - 1
        self._room[other][one] = self._room[other][one] + 1

    def _cheapest(self, starts):
        """The dicts from the nodes that a unit can come to to its least cost, and to the node ahead of them."""
        costs = dict(starts)
        ahead = {}
        waiting = list(starts)
        while len(waiting) > 0:
            node = waiting.pop(0)
            for other, room in enumerate(self._room[node]):
                cost = costs[node] + self._cost[node][other]
                if room > 0 and (other not in costs or cost < costs[other]):
                    costs[other] = cost
                    ahead[other] = node
                    waiting.append(other)
        return costs, ahead
