"""The places of a picture, their levels and their order."""


def level_of(i, j, levels):
    # A power of 2 divides both just where it divides the bits of either laid together.
    both = i | j
    level = 0
    while level < levels and (both >> level) & 1 == 0:
        level += 1
    return level


def places(high, wide, levels):
    groups = [[] for level in range(levels + 1)]
    for i in range(high):
        for j in range(wide):
            groups[level_of(i, j, levels)].append((i, j))
    ordered = []
    for group in reversed(groups):
        ordered.extend(group)
    return ordered
