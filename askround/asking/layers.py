"""What comes behind ever more answers: tables, and layers as far as a key that is asked or a parting.

A course tells the node it starts from (start, None where there is none), what comes behind a node (leads, each as
(answer, node)) and whether a thing is one of its nodes (could_be). Nodes are states, or pairs of them.
"""


def table_by(course):
    """The least tuple of nodes that has the first and, with each, all behind it; rising."""
    found = {}
    waiting = list(first_layer(course))
    while waiting:
        node = waiting.pop()
        if node not in found:
            found[node] = True
            waiting.extend([behind for _, behind in course.leads(node)])
    return tuple(sorted(found))


def is_table_by(course, thing):
    """Whether a thing is a rising tuple of nodes that has the first and, with each, all behind it."""
    return are_rising(course, thing) and _has_all(thing, list(first_layer(course))) and leads_into(course, thing, thing)


def are_rising(course, thing):
    """Whether a thing is a rising tuple of nodes."""
    if not isinstance(thing, tuple) or not all([course.could_be(node) for node in thing]):
        return False
    return all([node < behind for node, behind in zip(thing, thing[1:])])


def leads_into(course, nodes, room):
    """Whether all that comes behind nodes is in the room."""
    held = {node: True for node in room}
    for node in nodes:
        if not all([behind in held for _, behind in course.leads(node)]):
            return False
    return True


def _has_all(room, nodes):
    """Whether all nodes are in the room."""
    return all([node in room for node in nodes])


def first_layer(course):
    """What comes behind no answers."""
    node = course.start()
    return {} if node is None else {node: None}


def layer_behind(course, layer):
    """A dict from the nodes behind those of a layer to (the one ahead, the answer)."""
    found = {}
    for node in layer:
        for answer, behind in course.leads(node):
            if behind not in found:
                found[behind] = (node, answer)
    return found


def way_to(layers, node):
    """The answers by which a node of the last layer is come to."""
    way = []
    for layer in layers[:0:-1]:
        node, answer = layer[node]
        way.append(answer)
    return tuple(way[::-1])


def told_layers(layers):
    """Layers as they are told."""
    return tuple([tuple(sorted(layer)) for layer in layers])


def all_in(layers):
    """The nodes of all layers, rising."""
    return tuple(sorted({node for layer in layers for node in layer}))


def are_layers(course, thing, many):
    """Whether a thing is so many layers: the first with the first node, each other one with all behind those ahead."""
    if not isinstance(thing, tuple) or len(thing) != many or not all([are_rising(course, layer) for layer in thing]):
        return False
    if many > 0 and not _has_all(thing[0], list(first_layer(course))):
        return False
    return all([leads_into(course, layer, behind) for layer, behind in zip(thing, thing[1:])])
