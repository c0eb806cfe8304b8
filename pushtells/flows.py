"""The most that flows along arcs from one point to another one, over plain numbers."""


def flow_net(many, arcs):
    """(heads, rooms, leaving) of arcs (start, aim, room): the k-th one is arc 2 k, its way back arc 2 k + 1."""
    heads, rooms = [], []
    leaving = [[] for _ in range(many)]
    for start, aim, room in arcs:
        leaving[start].append(len(heads))
        leaving[aim].append(len(heads) + 1)
        heads.extend([aim, start])
        rooms.extend([room, 0])
    return heads, rooms, leaving


def far_from(net, aim):
    """How many arcs with room lead to the aim, for each point from which it is reached, nearest first."""
    heads, rooms, leaving = net
    far = {aim: 0}
    queue = [aim]
    at = 0
    while at < len(queue):
        point = queue[at]
        at += 1
        for arc in leaving[point]:
            before = heads[arc]
            if before not in far and rooms[arc ^ 1] > 0:
                far[before] = far[point] + 1
                queue.append(before)
    return far


def push_nearer(net, far, start, aim):
    """Push along shortest rows of arcs till none of them has room; how much went."""
    heads, rooms, leaving = net
    turns = [0] * len(leaving)
    path, total, point = [], 0, start
    while True:
        if point == aim:
            amount = min([rooms[arc] for arc in path])
            total += amount
            for arc in path:
                rooms[arc] -= amount
                rooms[arc ^ 1] += amount
            full = [at for at, arc in enumerate(path) if rooms[arc] == 0][0]
            point = heads[path[full] ^ 1]
            path = path[:full]
        elif turns[point] < len(leaving[point]):
            arc = leaving[point][turns[point]]
            if rooms[arc] > 0 and far.get(heads[arc], -1) == far[point] - 1:
                path.append(arc)
                point = heads[arc]
            else:
                turns[point] += 1
        elif point == start:
            return total
        else:
            point = heads[path.pop() ^ 1]
            turns[point] += 1


def most_flow(net, start, aim):
    """Push all that goes; how much went, and from where the aim could still be reached."""
    total = 0
    far = far_from(net, aim)
    while start in far:
        total += push_nearer(net, far, start, aim)
        far = far_from(net, aim)
    return total, far


def needing_net(arcs, needs):
    """The net of arcs with a source, behind all points, of what is too much, and a sink, behind it, of what lacks.

    Needs are below 0 where there is too much.
    """
    source, sink = len(needs), len(needs) + 1
    told = list(arcs)
    for point, need in enumerate(needs):
        if need < 0:
            told.append((source, point, -need))
        elif need > 0:
            told.append((point, sink, need))
    return flow_net(len(needs) + 2, told)


def flows_along(net, many):
    """What goes along each of the first arcs."""
    return [net[1][2 * at + 1] for at in range(many)]


def served(arcs, needs):
    """(lacking, flows, far): all that can be brought to where there is need from where there is too much.

    Lacking is what no flow brings; flows tell what goes along each arc; from what is in far those that lack
    something could still be reached.
    """
    net = needing_net(arcs, needs)
    brought, far = most_flow(net, len(needs), len(needs) + 1)
    lacking = sum([need for need in needs if need > 0]) - brought
    return lacking, flows_along(net, len(arcs)), far


def nearly_served(arcs, needs, ground):
    """Flows that leave as little as can be lacking and too much in all; the ground brings and takes whatever goes."""
    net = needing_net(arcs, needs)
    source, sink = len(needs), len(needs) + 1
    # What an earlier one of these leaves over no later one could bring either.
    for start, aim in ((source, sink), (ground, sink), (source, ground)):
        most_flow(net, start, aim)
    return flows_along(net, len(arcs))
