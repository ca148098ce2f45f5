"""Rings in graphs."""


def on_rings(edges):
    """The nodes that lie on a ring, as keys; edges has for each node a list of others, no node in its own one."""
    group = {}
    back = turned(edges)
    for root in reversed(finished_order(edges)):
        if root not in group:
            gather(root, back, group)
    sizes = {}
    for root in group.values():
        sizes[root] = sizes.get(root, 0) + 1
    return {node: True for node, root in group.items() if sizes[root] > 1}


def finished_order(edges):
    """The nodes in the order in which a search to the depth leaves them."""
    order = []
    seen = {}
    for root in edges:
        waiting = [(root, False)]
        while waiting:
            node, is_done = waiting.pop()
            if is_done:
                order.append(node)
            elif node not in seen:
                seen[node] = True
                waiting.append((node, True))
                waiting.extend([(other, False) for other in edges[node] if other not in seen])
    return order


def turned(edges):
    """The edges the other way about."""
    back = {node: [] for node in edges}
    for node, others in edges.items():
        for other in others:
            back[other].append(node)
    return back


def gather(root, back, group):
    """Puts the nodes that lead to a root, and are in no group, in its group."""
    waiting = [root]
    while waiting:
        node = waiting.pop()
        if node not in group:
            group[node] = root
            waiting.extend(back[node])
