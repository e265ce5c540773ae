"""Thinning: the fewest bindings to give up so that no command is ever late."""

from keywaits.kinds import is_number
from keywaits.maps import KeyMap, check_index


def late_pairs(keymap):
    """Return the ascending list of (number, number of a binding that the first one makes late)."""
    pairs = []
    for number, binding in enumerate(keymap.bindings):
        for other_number, other in enumerate(keymap.bindings):
            if binding[0] == other[0] and binding[1] in other[1][:-1]:
                pairs.append((number, other_number))
    return pairs


def _find_links(pairs):
    """Return as many links as chains of these pairs can have: a dict from bindings to the one just ahead of each."""
    late = {}
    for number, other in pairs:
        late.setdefault(number, []).append(other)
    links = {}
    for number in late:
        _link(late, number, links, {})
    return links


def _link(late, number, links, tried):
    """Link a binding to a later one, if need be after other bindings have changed theirs; return whether it is."""
    for other in late[number]:
        if other not in tried:
            tried[other] = True
            if other not in links or _link(late, links[other], links, tried):
                links[other] = number
                return True
    return False


def fewest_to_drop(keymap):
    """Return the ascending list of the fewest bindings without which no late pair is left, the first of several."""
    # As lateness is passed on from pair to pair, just as many must be dropped as chains can have links. So a
    # binding is one of the fewest if fewer links are left without it, and the least one begins the first list.
    pairs = late_pairs(keymap)
    missing = len(_find_links(pairs))
    dropped = []
    for number in range(len(keymap.bindings)):
        left = [pair for pair in pairs if number not in pair]
        if len(_find_links(left)) < missing:
            dropped.append(number)
            pairs = left
            missing = missing - 1
    return dropped


def find_chains(keymap):
    """Return a list of chains, which show that no fewer than `fewest_to_drop` are enough."""
    links = _find_links(late_pairs(keymap))
    following = {links[other]: other for other in links}
    chains = []
    for number in range(len(keymap.bindings)):
        if number not in links:
            chain = [number]
            while chain[-1] in following:
                chain.append(following[chain[-1]])
            chains.append(chain)
    return chains


def judge_chains(keymap, chains):
    """Return how many bindings must be dropped at least as chains show, or None if they are not chains of all."""
    if not isinstance(chains, list):
        return None
    many = len(keymap.bindings)
    pairs = late_pairs(keymap)
    found = []
    for chain in chains:
        if not _is_chain(chain, many, pairs):
            return None
        found.extend(chain)
    if sorted(found) != list(range(many)):
        return None
    return many - len(chains)


def _is_chain(value, many, pairs):
    if not isinstance(value, list) or len(value) == 0:
        return False
    if not all([is_number(number, 0, many - 1) for number in value]):
        return False
    return all([pair in pairs for pair in zip(value, value[1:])])


def without_bindings(keymap, *indexes):
    """Return the key map without the bindings with these numbers."""
    for index in indexes:
        check_index(keymap, index)
    bindings = [binding for number, binding in enumerate(keymap.bindings) if number not in indexes]
    return KeyMap(keymap.modes, keymap.wait, tuple(bindings))
