"""The least rows along strides: nodes are numbered, and each has steps, tuples that begin with the number of
a letter and the node to which it leads.
"""


def feeding_nodes(steps):
    """For each node, those from which a step leads to it."""
    found = [[] for _ in steps]
    for node, told in enumerate(steps):
        for step in told:
            found[step[1]].append(node)
    return found


def lengths_to(steps, goals):
    """For each node, how many steps it needs at least to come to a goal; -1 if it never does."""
    fed = feeding_nodes(steps)
    lengths = [-1 for _ in steps]
    met = list(goals)
    for goal in goals:
        lengths[goal] = 0
    at = 0
    while at < len(met):
        here = met[at]
        many = lengths[here] + 1
        for node in fed[here]:
            if lengths[node] == -1:
                lengths[node] = many
                met.append(node)
        at += 1
    return lengths


def stepped(steps, lengths, nodes, many):
    """The least letter that leads from some nodes to others that need so many steps, and these."""
    told = [step[:2] for node in nodes for step in steps[node] if lengths[step[1]] == many]
    letter = min([step[0] for step in told])
    return letter, sorted(set([step[1] for step in told if step[0] == letter]))


def least_way(alphabet, steps, starts, goals):
    """The least row whose letters lead from a start to a goal; None if there is none.

    On a shortest way each node needs just as many steps as are left.
    """
    lengths = lengths_to(steps, goals)
    able = [lengths[node] for node in starts if lengths[node] >= 0]
    if not able:
        return None
    many = min(able)
    nodes = [node for node in starts if lengths[node] == many]
    letters = []
    while many > 0:
        many -= 1
        letter, nodes = stepped(steps, lengths, nodes, many)
        letters.append(alphabet[letter])
    return "".join(letters)
