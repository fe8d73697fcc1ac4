"""Parts of a graph whose points all lead to each other, in an order that the graph gives.

A graph is a dict that has, for each of its points, the list of those that it feeds.
"""

from heapq import heappop, heappush


def turned(graph):
    """The graph with all its ways turned round."""
    found = {point: [] for point in graph}
    for point in graph:
        for after in graph[point]:
            found[after].append(point)
    return found


def reached(graph, start, seen):
    """The points that start leads to without those in seen, each behind those first met from it.

    They are put into seen. There is no recursion, since a way may be long.
    """
    found = []
    seen[start] = True
    trail = [(start, 0)]
    while trail:
        point, at = trail.pop()
        if at == len(graph[point]):
            found.append(point)
            continue
        trail.append((point, at + 1))
        after = graph[point][at]
        if after not in seen:
            seen[after] = True
            trail.append((after, 0))
    return found


def rings(graph):
    """The parts, each an ascending tuple, in no particular order (by two searches in depth)."""
    order = []
    seen = {}
    for start in graph:
        if start not in seen:
            order.extend(reached(graph, start, seen))
    back = turned(graph)
    found = []
    taken = {}
    for start in reversed(order):
        if start not in taken:
            found.append(tuple(sorted(reached(back, start, taken))))
    return found


def homes(members):
    """For each point the index of its part."""
    return {point: k for k, part in enumerate(members) for point in part}


def ways_out(graph, members):
    """For each part the indices of the others that it feeds, as often as points of it do."""
    home = homes(members)
    found = [[] for _ in members]
    for point in graph:
        for after in graph[point]:
            if home[after] != home[point]:
                found[home[point]].append(home[after])
    return found


def ordered_rings(graph):
    """The parts, each behind those that feed it; of several that could come, that of the least."""
    members = rings(graph)
    out = ways_out(graph, members)
    waits = [0 for _ in members]
    for row in out:
        for after in row:
            waits[after] += 1
    ready = []
    for k, part in enumerate(members):
        if waits[k] == 0:
            heappush(ready, (part[0], k))
    found = []
    while ready:
        _, k = heappop(ready)
        found.append(members[k])
        for after in out[k]:
            waits[after] -= 1
            if waits[after] == 0:
                heappush(ready, (members[after][0], after))
    return found
