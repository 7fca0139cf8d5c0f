"""Maps from one world to another one."""

from leaveledger.forms import is_name_pair
from leaveledger.graphs import Graph


def judge_map(book, world, second, pairs):
    """Whether pairs are a map from a world to a second one that keeps the links."""
    names = [node[0] for node in world[0]]
    if not isinstance(pairs, tuple) or not all([is_name_pair(pair) for pair in pairs]):
        return False
    if [name for name, _ in pairs] != names:
        return False
    images = {name: image for name, image in pairs}
    first_graph, second_graph = Graph(book, world), Graph(book, second)
    for name in names:
        if first_graph.standings[name] != second_graph.standings.get(images[name]):
            return False
    links = {link: True for link in second[1]}
    # What is no node of the first world is a badge, and its own image.
    return all([(images[start], tie, images.get(end, end)) in links for start, tie, end in world[1]])
