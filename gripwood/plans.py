"""Plans, which take a stack apart pull by pull, and buildings, which bring its parts together again."""

from gripwood.along import goes_out
from gripwood.errors import BadPull
from gripwood.knots import taken_apart
from gripwood.stacks import check_blocks, numbers_of, part_of, rest_of
from gripwood.ways import back, check_line, check_way, line_of, ways


def plan(stack, lines):
    """A plan that parts a stack into its knots."""
    return taken_apart(stack, lines)[0]


def judged(stack, lines, pulls):
    """The parts that pulls leave, by their first blocks; BadPull for the first one that cannot be done."""
    for line in lines:
        check_line(line)
    open_ways = [way for way in ways() if line_of(way) in lines]
    steps, parts = followed(stack, open_ways, pulls)
    return sorted([numbers_of(part) for part in parts])


def pushes(stack, pulls):
    """The building that does a plan in turned order, on the ways back."""
    for way, group in pulls:
        check_way(way)
    for way, group in pulls:
        check_blocks(stack, group)
    steps, parts = followed(stack, ways(), pulls)
    return [(back(way), group, rest) for way, group, rest in steps[::-1]]


def built(stack, parts, pushes):
    """The parts that a building leaves, by their first blocks; BadPull for the first push that cannot be done."""
    for group in parts:
        check_blocks(stack, group)
    left = [sorted(group) for group in parts]
    for at, (way, group, rest) in enumerate(pushes):
        one, other = sorted(set(group)), sorted(set(rest))
        if way not in ways() or one not in left or other not in left:
            raise BadPull(at)
        if not takes_out(part_of(stack, one + other), back(way), one):
            raise BadPull(at)
        left = [part for part in left if part != one and part != other] + [sorted(one + other)]
    return sorted(left)


def followed(stack, open_ways, pulls):
    """For each pull its way, its group and the rest that it leaves; and the parts that are left, which are stacks."""
    steps = []
    parts = [stack] if stack else []
    for at, (way, group) in enumerate(pulls):
        part = part_that_has(parts, group)
        if way not in open_ways or not takes_out(part, way, group):
            raise BadPull(at)
        halves = [part_of(part, group), rest_of(part, group)]
        steps.append((way, numbers_of(halves[0]), numbers_of(halves[1])))
        parts = [other for other in parts if other[0] != part[0]] + halves
    return steps, parts


def part_that_has(parts, group):
    """The first part that has a number of the group; the empty stack where none has."""
    chosen = {number: True for number in group}
    for part in parts:
        if any(number in chosen for number in numbers_of(part)):
            return part
    return []


def takes_out(stack, way, group):
    """Whether a list of any numbers is a group of a stack that a pull takes out of it."""
    known = {number: True for number in numbers_of(stack)}
    chosen = {number: True for number in group}
    if not 0 < len(chosen) < len(stack) or any(number not in known for number in chosen):
        return False
    return goes_out(stack, way, group)
