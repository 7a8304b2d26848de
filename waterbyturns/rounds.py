"""Games of options, in which the other side chooses one node of an option."""

from waterbyturns.errors import TooMany
from waterbyturns.words import check_number

_MOST_NODES = 12000


def ranks(game):
    """For each node 0 if it is kept, else the least number of steps within which all its options fail."""
    if len(game) > _MOST_NODES:
        raise TooMany(_MOST_NODES)
    _check_nodes(game)
    owners = []
    uses = [[] for _ in game]
    for node, options in enumerate(game):
        for option in options:
            if option is not None:
                for target in option:
                    uses[target].append(len(owners))
                owners.append(node)
    return _lost_in_turn(owners, uses)


def good_options(game, found, node):
    """The places of the options of the node that lead only to kept nodes."""
    return [place for place, option in enumerate(game[node]) if _is_good(option, found)]


def spoilers(game, found, node):
    """For each option of a node that is not kept, the node by which it fails, or None if it fails at once."""
    if found[node] == 0:
        return []
    return [_spoiler(option, found, found[node]) for option in game[node]]


def _check_nodes(game):
    last = len(game) - 1
    for options in game:
        for option in options:
            if option is not None:
                for target in option:
                    check_number("node", target, 0, last)


def _lost_in_turn(owners, uses):
    """The ranks, if option k belongs to the node owners[k] and uses[n] lists the options with the node n."""
    left = [0 for _ in uses]
    for owner in owners:
        left[owner] += 1
    lost = [node for node, count in enumerate(left) if count == 0]
    found = [1 if count == 0 else 0 for count in left]
    failed = [False for _ in owners]
    done = 0
    # Nodes are lost in the order of their ranks, so the first lost node of an option is the one that counts.
    while done < len(lost):
        node = lost[done]
        done += 1
        for option in uses[node]:
            if failed[option]:
                continue
            failed[option] = True
            owner = owners[option]
            left[owner] -= 1
            if left[owner] == 0:
                found[owner] = found[node] + 1
                lost.append(owner)
    return found


def _is_good(option, found):
    return option is not None and all([found[target] == 0 for target in option])


def _spoiler(option, found, rank):
    if option is None:
        return None
    for target in option:
        if 0 < found[target] < rank:
            return target
    return None
