"""Ways from node to node: one of fewest steps, and how many there are of so many steps.

A step is a tuple of two: its label, and the node that it leads to.
"""


def labels_to(node, arrivals):
    labels = []
    while arrivals[node] is not None:
        labels.append(arrivals[node][0])
        node = arrivals[node][1]
    labels.reverse()
    return labels


def shortest(start, steps, ends):
    arrivals = {start: None}
    nodes = [start]
    while len(nodes) > 0:
        farther = []
        for node in nodes:
            if ends(node):
                return labels_to(node, arrivals)
            for step in steps(node):
                if step[1] not in arrivals:
                    arrivals[step[1]] = (step[0], node)
                    farther.append(step[1])
        nodes = farther
    return None


def step_counts(steps):
    counts = {}
    for step in steps:
        counts[step[1]] = counts.get(step[1], 0) + 1
    return counts


def one_step_on(ways, counts):
    farther = {}
    for node in ways:
        for target, count in counts[node].items():
            farther[target] = farther.get(target, 0) + ways[node] * count
    return farther


def ways_to_end(start, steps, ends, length):
    if length < 0:
        return 0
    # A node is come to at many lengths, but its steps are always the same: they are asked for once.
    counts = {}
    ways = {start: 1}
    for walked in range(length):
        for node in ways:
            if node not in counts:
                counts[node] = step_counts(steps(node))
        ways = one_step_on(ways, counts)
    return sum([ways[node] for node in ways if ends(node)])
