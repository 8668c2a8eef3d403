"""What follows from sortings: the groups that are touched, two sortings made into one, or set side by side.

Groups are handed in and given back as a dict from each specimen to its group.
"""


def groups_touched(groups, specimens):
    """The groups of the specimens, ascending, 0 for those that are nowhere."""
    return sorted(set([groups.get(specimen, 0) for specimen in specimens]))


def numbered(labels):
    """Groups of the specimens with one label, numbered from 1 on by the least specimen."""
    numbers = {}
    groups = {}
    for specimen in sorted(labels):
        label = labels[specimen]
        if label not in numbers:
            numbers[label] = len(numbers) + 1
        groups[specimen] = numbers[label]
    return groups


def met_groups(a, b):
    labels = {}
    for specimen in a:
        if specimen in b:
            labels[specimen] = (a[specimen], b[specimen])
    return numbered(labels)


def relabelled(labels, lost, kept):
    """The labels with the one that is kept in the place of the one that is lost."""
    changed = {}
    for specimen in labels:
        label = labels[specimen]
        changed[specimen] = kept if label == lost else label
    return changed


def grown_together(labels, groups):
    """The labels when all specimens of one group have come to bear one label."""
    firsts = {}
    for specimen in groups:
        group = groups[specimen]
        if group in firsts:
            labels = relabelled(labels, labels[specimen], labels[firsts[group]])
        else:
            firsts[group] = specimen
    return labels


def joined_groups(a, b):
    labels = {}
    for specimen in list(a) + list(b):
        labels[specimen] = specimen
    return numbered(grown_together(grown_together(labels, a), b))


def blocks_in_order(groups):
    """The specimens of each group, ascending, under the group: by the groups' least specimens."""
    blocks = {}
    for specimen in sorted(groups):
        blocks.setdefault(groups[specimen], []).append(specimen)
    return blocks


def are_together(groups, x, y):
    return x in groups and y in groups and groups[x] == groups[y]


def first_pair_parted(a, b):
    """The first two specimens, or one and itself, that are together in a and not in b; none if there are none."""
    specimens = sorted(a)
    for place, x in enumerate(specimens):
        for y in specimens[place:]:
            if are_together(a, x, y) and not are_together(b, x, y):
                return [x, y]
    return []


def pair_counts(a, b):
    """How many pairs of specimens of both are together in both, in a alone, in b alone, in none."""
    specimens = [specimen for specimen in a if specimen in b]
    in_both = 0
    in_a = 0
    in_b = 0
    in_none = 0
    for place, x in enumerate(specimens):
        for y in specimens[place + 1:]:
            if a[x] == a[y] and b[x] == b[y]:
                in_both += 1
            elif a[x] == a[y]:
                in_a += 1
            elif b[x] == b[y]:
                in_b += 1
            else:
                in_none += 1
    return [in_both, in_a, in_b, in_none]
