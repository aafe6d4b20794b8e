"""Structures: the groups of people who may put their heads together, and who holds which part."""

from itertools import combinations

from jointhands.errors import BadStructure
from jointhands.kinds import has_word, is_ascending, is_number

MOST_PEOPLE = 8
MOST_GROUPS = 12


def check_structure(structure):
    """Raises BadStructure if this is no structure."""
    if not has_word(structure, "structure", 3):
        raise BadStructure("this is no structure")
    n, groups = structure[1], structure[2]
    if not is_number(n, 2, MOST_PEOPLE):
        raise BadStructure("a structure has 2 to 8 people")
    if type(groups) is not tuple or not 1 <= len(groups) <= MOST_GROUPS:
        raise BadStructure("a structure has a tuple of one to twelve groups")
    for group in groups:
        if type(group) is not tuple or not 1 <= len(group) < n or not is_ascending(group, 1, n):
            raise BadStructure("a group is a tuple of some but not all people, ascending")
    for at, group in enumerate(groups):
        for other in groups[:at]:
            if is_within(group, other) or is_within(other, group):
                raise BadStructure("a group lies within another one")


def check_quiet(structure):
    """Raises BadStructure if this is no structure, or not a quiet one."""
    if two_groups(structure) is not None:
        raise BadStructure("two groups together are everybody")


def check_sound(structure):
    """Raises BadStructure if this is no structure, or not a sound one."""
    if three_groups(structure) is not None:
        raise BadStructure("three groups together are everybody")


def is_within(some, people):
    """True if all of some people are among the others."""
    for person in some:
        if person not in people:
            return False
    return True


def outside(n, groups):
    """The list of those of n people who are in none of the groups, ascending."""
    found = list(range(1, n + 1))
    for group in groups:
        found = [person for person in found if person not in group]
    return found


def threshold(n, t):
    """The structure of all groups of t of n people."""
    if not is_number(n, 2, MOST_PEOPLE) or not is_number(t, 1, n - 1):
        raise BadStructure("a threshold is from 1 to one less than the people, who are 2 to 8")
    groups = tuple(combinations(range(1, n + 1), t))
    if len(groups) > MOST_GROUPS:
        raise BadStructure("these are more than twelve groups")
    return ("structure", n, groups)


def two_groups(structure):
    """The first pair of numbers of groups that together are everybody, None if there is none."""
    return first_cover(structure, 2)


def three_groups(structure):
    """The first triple of numbers of groups that together are everybody, None if there is none."""
    return first_cover(structure, 3)


def first_cover(structure, many):
    """The first tuple of so many numbers of groups, none below the one ahead of it, that together are everybody."""
    check_structure(structure)
    n, groups = structure[1], structure[2]
    covers = [()]
    for _ in range(many):
        covers = [(*ahead, at) for ahead in covers for at in range(ahead[-1] if ahead else 1, len(groups) + 1)]
    for cover in covers:
        if not outside(n, [groups[at - 1] for at in cover]):
            return cover
    return None


def holders(structure, part):
    """The list of the people who hold a part, ascending; nobody holds a part that there is not."""
    check_structure(structure)
    n, groups = structure[1], structure[2]
    return outside(n, [groups[part - 1]]) if 1 <= part <= len(groups) else []


def is_allowed(structure, people):
    """True if these people are a list or tuple, ascending, and lie within a greatest group."""
    check_structure(structure)
    n, groups = structure[1], structure[2]
    if type(people) not in (list, tuple) or not is_ascending(people, 1, n):
        return False
    return group_around(groups, people) is not None


def group_around(groups, people):
    """The place of the first of the groups within which people lie, None if they lie within none."""
    for at, group in enumerate(groups):
        if is_within(people, group):
            return at
    return None
