"""Nodes and steps between them: which nodes lead to one another, in the order in which they do."""


def finished(steps):
    """All nodes, each behind those that are met first from it: in the order in which they are done with."""
    order = []
    begun = [False for _ in steps]
    for root in range(len(steps)):
        waiting = [] if begun[root] else [(root, 0)]
        begun[root] = True
        while waiting:
            node, at = waiting.pop()
            if at == len(steps[node]):
                order.append(node)
                continue
            waiting.append((node, at + 1))
            follower = steps[node][at]
            if not begun[follower]:
                begun[follower] = True
                waiting.append((follower, 0))
    return order


def components(steps):
    """Groups of nodes each of which leads to all others of its group; what a group leads to comes behind it."""
    fed = [[] for _ in steps]
    for node, followers in enumerate(steps):
        for follower in followers:
            fed[follower].append(node)
    groups = []
    taken = [False for _ in steps]
    for root in reversed(list(finished(steps))):
        group = [] if taken[root] else [root]
        taken[root] = True
        at = 0
        while at < len(group):
            here = group[at]
            for node in fed[here]:
                if not taken[node]:
                    taken[node] = True
                    group.append(node)
            at += 1
        if group:
            groups.append(group)
    return groups
