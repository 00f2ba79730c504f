"""Which leaves a question looks at, and in which order."""

from partwise.forest import leaf_names, leaf_needs
from partwise.orders import full_order, place_rank
from partwise.scenes import Scene, equal_need, greater_need, other_names


def matching_leaves(tables, name, match):
    """The leaves of a table in which a possible row matches, ascending."""
    return [leaf for leaf in leaf_names(tables, name) if not matching_scene(tables, leaf, match).is_empty()]


def matching_scene(tables, leaf, match):
    """A possible row of a leaf that matches."""
    return _scene(tables, leaf, match, "true")


def _scene(tables, leaf, match, asked):
    scene = Scene()
    scene.add_row(tables[leaf].schema, {}, leaf_needs(tables, leaf) + [match.need(asked)])
    scene.add_parameters(match, {})
    return scene


def whole_leaves(tables, leaves, match):
    """Those of the leaves in which every possible row matches."""
    return [leaf for leaf in leaves if _scene(tables, leaf, match, "not true").is_empty()]


def runs_of(tables, leaves, match, entries):
    """The leaves in as many runs as the order of the entries allows, as a tuple of tuples."""
    return _least_runs(leaves, _closed(leaves, _rows_behind(tables, leaves, match, entries)))


def _rows_behind(tables, leaves, match, entries):
    """For each leaf, those of the others that have a matching row in front of one of its own."""
    if not leaves:
        return {}
    schema = tables[leaves[0]].schema
    full = full_order(schema, entries)
    firsts = {}
    lasts = {}
    for leaf in leaves:
        firsts[leaf] = _end_rank(matching_scene(tables, leaf, match), full, False)
        lasts[leaf] = _end_rank(matching_scene(tables, leaf, match), full, True)
    behind = {}
    for leaf in leaves:
        others = [other for other in leaves if other != leaf and firsts[other] < lasts[leaf]]
        if match.is_joint():
            # The two rows may need different values of the parameters.
            others = [other for other in others if _can_be_behind(tables, leaf, other, match, full)]
        behind[leaf] = {other: True for other in others}
    return behind


def _end_rank(scene, full, is_last):
    """What the first or the last row is ordered by, in the order of the entries."""
    ranks = []
    for names, is_down in _groups(full):
        places = scene.greatest(names) if is_down != is_last else scene.least(names)
        for name, place in zip(names, places):
            scene.settle(name, place)
            ranks.append(place_rank(place, is_down))
    return ranks


def _groups(full):
    """The entries that stand together and go in the same way, as pairs of names and this way."""
    groups = []
    for name, is_down in full:
        if groups and groups[-1][1] == is_down:
            groups[-1][0].append(name)
        else:
            groups.append(([name], is_down))
    return groups


def two_rows(tables, one, other, match):
    """Matching possible rows of two leaves of a table, with the same parameters."""
    schema = tables[one].schema
    scene = Scene()
    scene.add_row(schema, {}, leaf_needs(tables, one) + [match.need("true")])
    scene.add_row(schema, other_names(schema), leaf_needs(tables, other) + [match.need("true")])
    scene.add_parameters(match, {})
    return scene


def _can_be_behind(tables, one, other, match, full):
    """Whether a matching row of one leaf can come behind one of the other."""
    names = other_names(tables[one].schema)
    need = ("or", ())
    for name, is_down in full[::-1]:
        greater = greater_need(names[name], name) if is_down else greater_need(name, names[name])
        need = ("or", (greater, ("and", (equal_need(name, names[name]), need))))
    scene = two_rows(tables, one, other, match)
    scene.needs.append(need)
    return not scene.is_empty()


def _closed(leaves, behind):
    """The same for leaves that are behind others by way of further ones."""
    reached = {leaf: dict(behind[leaf]) for leaf in leaves}
    for middle in leaves:
        for leaf in leaves:
            if middle in reached[leaf]:
                reached[leaf].update(dict(reached[middle]))
    return reached


def _least_runs(leaves, behind):
    """The least order of the groups of leaves that are behind one another."""
    groups = []
    for leaf in leaves:
        group = tuple([other for other in leaves if other == leaf or _are_mixed(behind, leaf, other)])
        if group[0] == leaf:
            groups.append(group)
    runs = []
    while groups:
        free = [group for group in groups if _is_free(group, groups, behind)]
        runs.append(free[0])
        groups = [group for group in groups if group != free[0]]
    return tuple(runs)


def _are_mixed(behind, one, other):
    return other in behind[one] and one in behind[other]


def _is_free(group, groups, behind):
    """Whether none of the other groups has to come before the group."""
    return not any([other != group and other[0] in behind[group[0]] for other in groups])


def are_separate(tables, leaves, match, columns):
    """Whether no matching possible rows of two of the leaves agree in the columns."""
    for at, one in enumerate(leaves):
        for other in leaves[:at]:
            names = other_names(tables[one].schema)
            scene = two_rows(tables, one, other, match)
            for name in columns:
                scene.needs.append(equal_need(name, names[name]))
            if not scene.is_empty():
                return False
    return True
