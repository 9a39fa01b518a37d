"""The search for a way of fewest steps, which every question after a shortest number goes through.

A step is a tuple of two: its label, and the node that it leads to.
"""


def labels_to(node, arrivals):
    labels = []
    while arrivals[node] is not None:
        labels.append(arrivals[node][0])
        node = arrivals[node][1]
    labels.reverse()
    return labels


def shortest(start, steps, ends):
    arrivals = {start: None}
    nodes = [start]
    while len(nodes) > 0:
        farther = []
        for node in nodes:
            if ends(node):
                return labels_to(node, arrivals)
            for step in steps(node):
                if step[1] not in arrivals:
                    arrivals[step[1]] = (step[0], node)
                    farther.append(step[1])
        nodes = farther
    return None
