"""What follows from sortings: the groups that are touched, and two sortings made into one.

Groups are handed in and given back as a dict from each specimen to its group.
"""


def groups_touched(groups, specimens):
    """The groups of the specimens, ascending, 0 for those that are nowhere."""
    return sorted(set([groups.get(specimen, 0) for specimen in specimens]))


def numbered(labels):
    """Groups of the specimens with one label, numbered from 1 on by the least specimen."""
    numbers = {}
    groups = {}
    for specimen in sorted(labels):
        label = labels[specimen]
        if label not in numbers:
            numbers[label] = len(numbers) + 1
        groups[specimen] = numbers[label]
    return groups


def met_groups(a, b):
    labels = {}
    for specimen in a:
        if specimen in b:
            labels[specimen] = (a[specimen], b[specimen])
    return numbered(labels)


def relabelled(labels, lost, kept):
    """The labels with the one that is kept in the place of the one that is lost."""
    changed = {}
    for specimen in labels:
        label = labels[specimen]
        changed[specimen] = kept if label == lost else label
    return changed


def grown_together(labels, groups):
    """The labels when all specimens of one group have come to bear one label."""
    firsts = {}
    for specimen in groups:
        group = groups[specimen]
        if group in firsts:
            labels = relabelled(labels, labels[specimen], labels[firsts[group]])
        else:
            firsts[group] = specimen
    return labels


def joined_groups(a, b):
    labels = {}
    for specimen in list(a) + list(b):
        labels[specimen] = specimen
    return numbered(grown_together(grown_together(labels, a), b))
