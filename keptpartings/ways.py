"""Shortest ways from one thing to others."""


def shortest_ways(begin, steps):
    """For each thing that is come to, the first one too, a tuple of the steps of a shortest way there.

    steps is a function that tells for a thing the list of pairs of a step and the thing that it leads to.
    Of the shortest ways the one stands that takes the steps which are listed first.
    """
    ways = {begin: ()}
    ends = [begin]
    while ends:
        reached = []
        for end in ends:
            for step, goal in steps(end):
                if goal not in ways:
                    ways[goal] = (*ways[end], step)
                    reached.append(goal)
        ends = reached
    return ways


def pair_words(table, one, far):
    """For each two standings, the lower number first, that a word leads two standings to, a shortest such word."""

    def steps(pair):
        goals = list(zip(table[pair[0]], table[pair[1]]))
        return [(letter, tuple(sorted(both))) for letter, both in enumerate(goals)]

    return shortest_ways(tuple(sorted([one, far])), steps)
