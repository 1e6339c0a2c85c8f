"""What several test files use."""

import copy
import itertools
import random
import signal
import unittest
from contextlib import contextmanager

from gripwood.workshop import Workshop

GREAT = 10 ** 30 - 1

NAMES = ["heap", "lay", "burn", "carve", "plug", "saw", "peg", "unpeg", "pull", "home", "turn", "shift", "press", "bar",
         "unbar", "draft"]

# The refusals with their words.
WORDS = {
    "BadCell": "bad cell", "BadWay": "bad way", "BadLine": "bad line", "BadTurn": "bad turn",
    "BadMeasure": "bad measure", "NoBlock": "no block", "NoPile": "no pile", "NoPeg": "no peg",
    "NoPlan": "no plan", "NoWood": "no wood", "Loose": "loose", "Touch": "touch", "Held": "held",
    "Last": "last", "NoCut": "no cut", "Same": "same", "Whole": "whole", "Torn": "torn", "Barred": "barred",
    "NotBarred": "not barred", "Stopped": "stopped", "TooMany": "too many", "BadPull": "bad pull",
    "NothingBack": "nothing back", "NothingForth": "nothing forth", "BadText": "bad text",
}

# The two turns that DOC.md tells, of which all others come.
TOLD_TURNS = [("north", "west", "up"), ("north", "up", "east")]

VECTORS = {
    "east": (1, 0, 0), "west": (-1, 0, 0),
    "north": (0, 1, 0), "south": (0, -1, 0),
    "up": (0, 0, 1), "down": (0, 0, -1),
}

WAYS = list(VECTORS)
BACKS = {"east": "west", "west": "east", "north": "south", "south": "north", "up": "down", "down": "up"}

LINE_WAYS = {"long": ["east", "west"], "broad": ["north", "south"], "high": ["up", "down"]}
LINES = list(LINE_WAYS)

NO_WAYS = ["", " ", "long", "broad", "high", "East", "EAST", " east", "east ", "eas", "easts", "east\n",
           "left", "0", "east,west", "east west"]
NO_LINES = ["", " ", "east", "west", "north", "south", "up", "down", "Long", "LONG", " long", "long ", "lon",
            "longs", "long\n", "deep", "0", "long,broad"]


@contextmanager
def at_once(seconds=10):
    """Fails where what stands in it takes longer, instead of waiting for its end."""
    def too_long(number, frame):
        raise AssertionError(f"not told within {seconds} seconds")

    before = signal.signal(signal.SIGALRM, too_long)
    signal.alarm(seconds)
    try:
        yield
    finally:
        signal.alarm(0)
        signal.signal(signal.SIGALRM, before)


def led_vector(cell, turn):
    """A cell turned by the words of [4] over plain vectors: apart from the program, to judge it by."""
    return tuple(sum(number * VECTORS[way][k] for number, way in zip(cell, turn)) for k in range(3))


def all_turns():
    """All triples that come of the told ones, apart from the program."""
    names = {vector: way for way, vector in VECTORS.items()}
    found = list(TOLD_TURNS)
    for turn in found:
        for told in TOLD_TURNS:
            both = tuple(names[led_vector(VECTORS[way], told)] for way in turn)
            if both not in found:
                found.append(both)
    return sorted(found)


TURNS = all_turns()


def place_on(cell, way):
    return sum(number * by for number, by in zip(cell, VECTORS[way]))


def lane_on(cell, way):
    return tuple(number for number, by in zip(cell, VECTORS[way]) if by == 0)


def meetings_on(stack, way, one, other):
    """All pairs of cells by which the other block lies ahead of the one, by the words of [7]."""
    blocks = dict(stack)
    return [(cell, farther) for cell in blocks[one] for farther in blocks[other]
            if lane_on(cell, way) == lane_on(farther, way) and place_on(cell, way) < place_on(farther, way)]


def pairs_on(stack, way):
    """All pairs of [7], rising, apart from the program."""
    spots = {}
    for number, cells in stack:
        for cell in cells:
            spots.setdefault(lane_on(cell, way), []).append((place_on(cell, way), number))
    return sorted({(one, other) for lane in spots.values() for near, one in lane for far, other in lane
                   if one != other and near < far})


def leaves_on(stack, way, group):
    """Whether a group goes out, by the words of [8]."""
    return not any(one in group and other not in group for one, other in pairs_on(stack, way))


def pulls_on(stack, lines):
    """All pulls on open lines, by the words of [10]."""
    return [(way, group) for line in lines for way in LINE_WAYS[line] for group in groups_of(stack)
            if 0 < len(group) < len(stack) and leaves_on(stack, way, group)]


def pieces_on(cells):
    """The pieces of cells by the words of [5], by their least cells."""
    found = []
    for cell in sorted(cells):
        near = [piece for piece in found if any(sum(abs(a - b) for a, b in zip(cell, other)) == 1 for other in piece)]
        found = [piece for piece in found if piece not in near] + [sorted(sum(near, [cell]))]
    return sorted(found)


def along_on(stack, way, group):
    """What comes along with a group, by the words of [8]."""
    found = set(group)
    pairs = pairs_on(stack, way)
    while True:
        more = {other for one, other in pairs if one in found} - found
        if not more:
            return sorted(found)
        found |= more


def knots_on(stack, lines):
    """The knots by the words of [10]: parted by pulls as long as one is there."""
    for way in [way for line in lines for way in LINE_WAYS[line]]:
        for number, cells in stack:
            group = along_on(stack, way, [number])
            if len(group) < len(stack):
                rest = [other for other, cells in stack if other not in group]
                return sorted(knots_on(part(stack, group), lines) + knots_on(part(stack, rest), lines))
    return [[number for number, cells in stack]] if stack else []


def core_on(stack, lines):
    """The core by the words of [11], where both ways of each line are open."""
    for way in [way for line in lines for way in LINE_WAYS[line]]:
        for number, cells in stack:
            if leaves_on(stack, way, [number]):
                return core_on([block for block in stack if block[0] != number], lines)
    return [number for number, cells in stack]


def steps_on(stack, way):
    """The steps of each block that is pressed: the greatest ones that keep both bounds of [12]."""
    wall = max([place_on(cell, way) for number, cells in stack for cell in cells], default=0)
    steps = {number: wall - max(place_on(cell, way) for cell in cells) for number, cells in stack}
    bounds = [(one, other, place_on(farther, way) - place_on(cell, way) - 1)
              for one, other in itertools.permutations(steps, 2)
              for cell, farther in meetings_on(stack, way, one, other)]
    while True:
        broken = [(one, steps[other] + gap) for one, other, gap in bounds if steps[one] > steps[other] + gap]
        if not broken:
            return steps
        for one, bound in broken:
            steps[one] = min(steps[one], bound)


def subsets(things):
    """All lists of some of the things, from none of them to all."""
    return [list(some) for many in range(len(things) + 1) for some in itertools.combinations(things, many)]


def part(stack, group):
    return [(number, cells) for number, cells in stack if number in group]


def led_way(way, turn):
    return {vector: name for name, vector in VECTORS.items()}[led_vector(VECTORS[way], turn)]


def led_line(line, turn):
    return next(name for name in LINES if led_way(LINE_WAYS[line][0], turn) in LINE_WAYS[name])


def led_stack(stack, turn, by):
    """The stack turned, and then shifted."""
    return [(number, sorted(tuple(map(sum, zip(led_vector(cell, turn), by))) for cell in cells))
            for number, cells in stack]


def groups_of(stack):
    """All groups of a stack, each one rising, from the one of no block to the one of all."""
    return subsets([number for number, cells in stack])


def shuffled(group, chance):
    """The same group in another order, with a number twice where it has one."""
    mixed = group + group[:1]
    chance.shuffle(mixed)
    return mixed


def wild_stacks(seed, many, most_blocks=5, most_cells=3, sides=(3, 3, 2), least_cells=1):
    """So many stacks of blocks thrown together by chance, yet the same ones for the same seed."""
    chance = random.Random(seed)
    stacks = []
    for at in range(many):
        cells = [tuple(number - 1 for number in cell) for cell in itertools.product(*map(range, sides))]
        chance.shuffle(cells)
        numbers = sorted(chance.sample(range(30), chance.randint(1, most_blocks)))
        stacks.append([(number, sorted(cells.pop() for at in range(chance.randint(least_cells, most_cells))))
                       for number in numbers])
    return stacks


def spoil(told):
    """Changes every list within what was told or handed in."""
    if isinstance(told, (list, tuple)):
        for within in told:
            spoil(within)
    if isinstance(told, list):
        told.reverse()
        told.append("spoilt")
        del told[:1]


# Deeds that can be done one behind the other, each of the sixteen among them, with what each one tells and its text.
STORY = [
    (("heap",), 0, "heap"),
    (("lay", 0, [(1, 0, 0), (0, 0, 0)]), 0, "lay 0 1,0,0 0,0,0"),
    (("lay", 0, [(2, 0, 0)]), 1, "lay 0 2,0,0"),
    (("plug", 1, (3, 0, 0)), None, "plug 1 3,0,0"),
    (("peg", 0, (0, 0, 0), "east", 3), 0, "peg 0 0,0,0 east 3"),
    (("unpeg", 0), None, "unpeg 0"),
    (("saw", 0, "long", 1), [2], "saw 0 long 1"),
    (("carve", 0, (3, 0, 0)), [], "carve 0 3,0,0"),
    (("pull", 0, "up", [2, 1, 2]), 1, "pull 0 up 2,1,2"),
    (("home", 0, 1, "down"), None, "home 0 1 down"),
    (("turn", 0, ("south", "east", "up")), None, "turn 0 south,east,up"),
    (("shift", 0, (0, -1, 5)), None, "shift 0 0,-1,5"),
    (("press", 0, "west"), None, "press 0 west"),
    (("bar", "high"), None, "bar high"),
    (("unbar", "high"), None, "unbar high"),
    (("draft", 0), 0, "draft 0"),
    (("burn", 1), None, "burn 1"),
]


def shop_of(deeds):
    """A new workshop in which these deeds were done."""
    shop = Workshop()
    for name, *handed in copy.deepcopy(deeds):
        getattr(shop, name)(*handed)
    return shop


def model_of(deeds):
    """A new model in which these deeds were done; its plans are not filled in."""
    model = Model()
    for deed in deeds:
        model.do(*deed)
    return model


def answers(shop):
    """What a workshop, or the model of one, answers to all questions."""
    told = {"piles": shop.piles(), "pegs": shop.pegs(), "barred": shop.barred(), "journal": shop.journal()}
    for pile in told["piles"]:
        for question in ("blocks", "stack", "bodies", "body_stack", "knots", "core"):
            told[question, pile] = getattr(shop, question)(pile)
        for block in told["blocks", pile]:
            told["cells", block] = shop.cells(block)
            told["where", block] = shop.where(block)
            for way in WAYS:
                told["along", pile, way, block] = shop.along(pile, way, [block])
    for peg in told["pegs"]:
        told["peg_cells", peg] = shop.peg_cells(peg)
    for number in range(sum(deed[0] == "draft" for deed in told["journal"])):
        for question in ("plan", "plan_pile", "plan_good"):
            told[question, number] = getattr(shop, question)(number)
    return told


class Model:
    """A workshop by the words of [16] to [21], apart from the program and in no hurry, to judge it by.

    Each due_.. tells all refusals that are due, in the told order, as pairs of a word and the fields; of those that
    have to look at what is not there, none. Each do_.. does a deed that nothing refuses.
    """

    def __init__(self):
        self.wood = {}
        self.rods = {}
        self.kept = []
        self.bars = []
        self.many = {"pile": 0, "block": 0, "peg": 0}
        self.heaps = []
        self.deeds = []

    def piles(self):
        return sorted(self.heaps)

    def pegs(self):
        return sorted(self.rods)

    def barred(self):
        return [line for line in LINES if line in self.bars]

    def journal(self):
        return copy.deepcopy(self.deeds)

    def blocks(self, pile):
        return sorted(block for block in self.wood if self.wood[block][0] == pile)

    def cells(self, block):
        return sorted(self.wood[block][1])

    def where(self, block):
        return self.wood[block][0]

    def stack(self, pile):
        return [(block, self.cells(block)) for block in self.blocks(pile)]

    def peg_cells(self, peg):
        return list(self.rods[peg][1])

    def bodies(self, pile):
        found = [{block} for block in self.blocks(pile)]
        for peg in self.rods:
            if self.rods[peg][0] == pile:
                held = {block for block in self.blocks(pile) if set(self.cells(block)) & set(self.rods[peg][1])}
                found = [body for body in found if not body & held] + [set().union(*(b for b in found if b & held))]
        return sorted(sorted(body) for body in found)

    def body_stack(self, pile):
        return [(body[0], sorted(cell for block in body for cell in self.cells(block))) for body in self.bodies(pile)]

    def spread(self, pile, firsts):
        return sorted(block for body in self.bodies(pile) if body[0] in firsts for block in body)

    def unbarred(self):
        return [line for line in LINES if line not in self.bars]

    def knots(self, pile):
        return [self.spread(pile, knot) for knot in knots_on(self.body_stack(pile), self.unbarred())]

    def core(self, pile):
        return self.spread(pile, core_on(self.body_stack(pile), self.unbarred()))

    def along(self, pile, way, blocks):
        firsts = [body[0] for body in self.bodies(pile) if set(body) & set(blocks)]
        return self.spread(pile, along_on(self.body_stack(pile), way, firsts))

    def plan(self, number):
        return copy.deepcopy(self.kept[number][1])

    def plan_pile(self, number):
        return self.kept[number][0]

    def plan_good(self, number):
        pile, pulls = self.kept[number]
        parts = [self.blocks(pile)] if pile in self.heaps else []
        for at, (way, group) in enumerate(pulls):
            held = [one for one in parts if set(group) < set(one)]
            if not held or self.torn(pile, group) or not any(way in LINE_WAYS[line] for line in self.unbarred()):
                return at
            if not group or not leaves_on(part(self.stack(pile), held[0]), way, group):
                return at
            parts.remove(held[0])
            parts += [group, [block for block in held[0] if block not in group]]
        return None

    def torn(self, pile, blocks):
        return any(set(body) & set(blocks) and set(body) - set(blocks) for body in self.bodies(pile))

    def owners(self, pile):
        return {cell: block for block, cells in self.stack(pile) for cell in cells}

    def held(self, pile, cells):
        by = [peg for peg in self.rods if self.rods[peg][0] == pile and set(self.rods[peg][1]) & set(cells)]
        return [("held", {"by": min(by)})] if by else []

    def touched(self, cells, others):
        shared = set(cells) & set(others)
        return [("touch", {"cell": min(shared)})] if shared else []

    def full(self, *piles, blocks=0, cells=0):
        stack = [block for pile in set(piles) for block in self.stack(pile)]
        many = sum(len(cells) for block, cells in stack) + cells
        return [("too many", {})] if len(stack) + blocks > 24 or many > 240 else []

    def due(self, name, *handed):
        late = [("too many", {})] if len(self.deeds) >= 200 else []
        return list(getattr(self, "due_" + name)(*handed)) + late

    def do(self, name, *handed):
        told = getattr(self, "do_" + name)(*handed)
        self.deeds.append(copy.deepcopy((name, *handed)))
        return told

    def come(self, kind):
        self.many[kind] += 1
        return self.many[kind] - 1

    def due_heap(self):
        return []

    def do_heap(self):
        self.heaps.append(self.come("pile"))
        return self.heaps[-1]

    def due_lay(self, pile, cells):
        if not cells or len(set(cells)) < len(cells) or any(abs(number) > 30 for cell in cells for number in cell):
            yield "bad cell", {}
        if len(pieces_on(set(cells))) > 1:
            yield "loose", {}
        if pile not in self.heaps:
            yield "no pile", {}
            return
        yield from self.touched(cells, self.owners(pile))
        yield from self.full(pile, blocks=1, cells=len(cells))

    def do_lay(self, pile, cells):
        block = self.come("block")
        self.wood[block] = (pile, list(cells))
        return block

    def due_burn(self, block):
        if block not in self.wood:
            return [("no block", {})]
        return self.held(self.where(block), self.cells(block))

    def do_burn(self, block):
        del self.wood[block]

    def fallen(self, cells, line=None, at=None):
        """The pieces of cells, or of the two sides of a cut."""
        if line is None:
            return pieces_on(cells)
        forth = LINE_WAYS[line][0]
        less = [cell for cell in cells if place_on(cell, forth) < at]
        return sorted(pieces_on(less) + pieces_on(set(cells) - set(less)))

    def fall(self, block, parts):
        pile = self.where(block)
        self.wood[block] = (pile, parts[0])
        return [self.do_lay(pile, cells) for cells in parts[1:]]

    def due_carve(self, pile, cell):
        if pile not in self.heaps:
            yield "no pile", {}
            return
        if cell not in self.owners(pile):
            yield "no wood", {}
            return
        yield from self.held(pile, [cell])
        left = set(self.cells(self.owners(pile)[cell])) - {cell}
        if not left:
            yield "last", {}
            return
        yield from self.full(pile, blocks=len(self.fallen(left)) - 1)

    def do_carve(self, pile, cell):
        block = self.owners(pile)[cell]
        return self.fall(block, self.fallen(set(self.cells(block)) - {cell}))

    def due_plug(self, block, cell):
        if any(abs(number) > 30 for number in cell):
            yield "bad cell", {}
        if block not in self.wood:
            yield "no block", {}
            return
        yield from self.touched([cell], self.owners(self.where(block)))
        if all(sum(abs(a - b) for a, b in zip(cell, other)) != 1 for other in self.cells(block)):
            yield "loose", {}
        yield from self.full(self.where(block), cells=1)

    def do_plug(self, block, cell):
        self.wood[block] = (self.where(block), [*self.cells(block), cell])

    def due_saw(self, block, line, at):
        if line not in LINES:
            yield "bad line", {}
        if block not in self.wood:
            yield "no block", {}
        elif line in LINES:
            less = [cell for cell in self.cells(block) if place_on(cell, LINE_WAYS[line][0]) < at]
            if len(less) in (0, len(self.cells(block))):
                yield "no cut", {}
            yield from self.full(self.where(block), blocks=len(self.fallen(self.cells(block), line, at)) - 1)

    def do_saw(self, block, line, at):
        return self.fall(block, self.fallen(self.cells(block), line, at))

    def rod(self, cell, way, many):
        return [tuple(number + at * by for number, by in zip(cell, VECTORS[way])) for at in range(many)]

    def due_peg(self, pile, cell, way, many):
        if way not in WAYS:
            yield "bad way", {}
        if not 2 <= many <= 12:
            yield "bad measure", {}
        if pile not in self.heaps:
            yield "no pile", {}
        elif way in WAYS and many <= 100:
            held = {self.owners(pile).get(one) for one in self.rod(cell, way, many)}
            if None in held:
                yield "no wood", {}
            elif len(held) == 1:
                yield "same", {}
        if len(self.rods) >= 40:
            yield "too many", {}

    def do_peg(self, pile, cell, way, many):
        peg = self.come("peg")
        self.rods[peg] = (pile, self.rod(cell, way, many))
        return peg

    def due_unpeg(self, peg):
        return [] if peg in self.rods else [("no peg", {})]

    def do_unpeg(self, peg):
        del self.rods[peg]

    def due_pull(self, pile, way, blocks):
        if way not in WAYS:
            yield "bad way", {}
        if pile not in self.heaps:
            yield "no pile", {}
            return
        own = set(self.blocks(pile))
        if set(blocks) - own:
            yield "no block", {}
        if set(blocks) in (set(), own):
            yield "whole", {}
        if self.torn(pile, blocks):
            yield "torn", {}
        if way in WAYS:
            yield from self.unfit(way, way, self.stack(pile), set(blocks) & own)

    def unfit(self, way, out, stack, group):
        """Barred, where the way is, and Stopped, where a group does not go out."""
        if not any(way in LINE_WAYS[line] for line in self.unbarred()):
            yield "barred", {}
        met = [(one, other) for one, other in pairs_on(stack, out) if one in group and other not in group]
        if met:
            yield "stopped", {"met": met}

    def do_pull(self, pile, way, blocks):
        number = self.do_heap()
        for peg in self.rods:
            if self.rods[peg][0] == pile and any(set(self.rods[peg][1]) & set(self.cells(b)) for b in blocks):
                self.rods[peg] = (number, self.rods[peg][1])
        for block in blocks:
            self.wood[block] = (number, self.cells(block))
        return number

    def due_home(self, pile, other, way):
        if way not in WAYS:
            yield "bad way", {}
        if pile not in self.heaps or other not in self.heaps:
            yield "no pile", {}
        if pile == other:
            yield "same", {}
        if pile not in self.heaps or other not in self.heaps:
            return
        yield from self.touched(self.owners(pile), self.owners(other))
        if way in WAYS:
            stack = sorted(self.stack(pile) + (self.stack(other) if pile != other else []))
            yield from self.unfit(way, BACKS[way], stack, set(self.blocks(other)))
        yield from self.full(pile, other)

    def do_home(self, pile, other, way):
        for things in (self.wood, self.rods):
            for number in things:
                if things[number][0] == other:
                    things[number] = (pile, things[number][1])
        self.heaps.remove(other)

    def lead(self, pile, leads):
        for things in (self.wood, self.rods):
            for number in things:
                if things[number][0] == pile:
                    things[number] = (pile, [leads(cell) for cell in things[number][1]])

    def due_turn(self, pile, turn):
        if turn not in TURNS:
            yield "bad turn", {}
        if pile not in self.heaps:
            yield "no pile", {}

    def do_turn(self, pile, turn):
        self.lead(pile, lambda cell: led_vector(cell, turn))

    def due_shift(self, pile, by):
        if pile not in self.heaps:
            return [("no pile", {})]
        far = any(abs(number + more) > 30 for cell in self.owners(pile) for number, more in zip(cell, by))
        return [("bad cell", {})] if far else []

    def do_shift(self, pile, by):
        self.lead(pile, lambda cell: tuple(map(sum, zip(cell, by))))

    def due_press(self, pile, way):
        if way not in WAYS:
            yield "bad way", {}
        if pile not in self.heaps:
            yield "no pile", {}

    def do_press(self, pile, way):
        steps = steps_on(self.body_stack(pile), way)
        many = {cell: steps[body] for body, cells in self.body_stack(pile) for cell in cells}
        self.lead(pile, lambda cell: self.rod(cell, way, many[cell] + 1)[-1])

    def due_bar(self, line):
        if line not in LINES:
            return [("bad line", {})]
        return [("barred", {})] if line in self.bars else []

    def do_bar(self, line):
        self.bars.append(line)

    def due_unbar(self, line):
        if line not in LINES:
            return [("bad line", {})]
        return [] if line in self.bars else [("not barred", {})]

    def do_unbar(self, line):
        self.bars.remove(line)

    def due_draft(self, pile):
        return [] if pile in self.heaps else [("no pile", {})]

    def do_draft(self, pile):
        # Which plan is kept is not promised, so it is filled in by whoever asked the program for it.
        self.kept.append((pile, None))
        return len(self.kept) - 1


LENGTHS = (-10 ** 29, -1, 0, 1, 4, 12, 13, 14, 10 ** 29)


class Thrower:
    """Deeds by chance over what is there in a model; now and then something that is not there."""

    def __init__(self, seed, model, wrong=8):
        self.chance = random.Random(seed)
        self.model = model
        self.wrong = wrong

    def seldom(self):
        return self.chance.randrange(100) < self.wrong

    def one_of(self, things, others):
        things = list(things)
        return self.chance.choice(list(others) if self.seldom() or not things else things)

    def pile(self):
        return self.one_of(self.model.heaps, (-1, 50, 1000, 10 ** 29))

    def block(self):
        return self.one_of(self.model.wood, (-1, 300, 10 ** 29))

    def way(self):
        return self.one_of(WAYS, NO_WAYS)

    def line(self):
        return self.one_of(LINES, ("east", "", "Long", "deep"))

    def cell(self):
        side = self.chance.choice((2, 3, 31) if self.seldom() else (1, 1, 2))
        return tuple(self.chance.randint(-side, side) for at in range(3))

    def cells(self):
        found = [self.cell()]
        while self.chance.randrange(5) and len(found) < 6:
            near = list(self.chance.choice(found))
            near[self.chance.randrange(3)] += self.chance.choice((-1, 1))
            if tuple(near) not in found:
                found.append(tuple(near))
        if self.seldom():
            found = self.chance.choice(([], found + found[:1], [*found, (31, 0, 0)], [*found, self.cell()],
                                        [*found, (0, -31, 0), found[0]]))
        self.chance.shuffle(found)
        return found

    def wood_near(self, pile):
        """A cell of wood of the pile, where it has some."""
        return self.one_of(self.model.owners(pile), (self.cell(), (31, 31, 31), (0, 0, 10 ** 29)))

    def group(self, pile, way):
        own = self.model.blocks(pile)
        found = [block for block in own if self.chance.randrange(2)]
        if own and self.chance.randrange(3):
            found = [self.chance.choice(own)]
            if way in WAYS and not self.seldom():
                found = self.model.along(pile, way, found)
        if self.seldom():
            found = self.chance.choice(([], own, found + found[:1], [*found, self.block()], [*found, -1]))
        self.chance.shuffle(found)
        return found

    def near(self, block):
        """A cell beside one of the block's, where it is there."""
        cell = list(self.one_of(self.model.wood.get(block, (0, []))[1], (self.cell(), (30, 0, 0), (-2, 0, -30))))
        cell[self.chance.randrange(3)] += self.chance.choice((-1, 1))
        return tuple(cell)

    def cut(self):
        block, line = self.block(), self.line()
        cells = self.model.wood.get(block, (0, []))[1]
        inner = {cell[LINES.index(line)] for cell in cells} if line in LINES else ()
        return block, line, self.one_of(sorted(inner), (-40, 0, 1, 10 ** 29))

    def rod(self, pile):
        """A cell and a way from one block into another one, where there are such; seldom into the same one."""
        owners = self.model.owners(pile)
        inner = [(cell, way) for cell in owners for way in WAYS if self.model.rod(cell, way, 2)[1] in owners]
        fit = [(cell, way) for cell, way in inner if owners[cell] != owners[self.model.rod(cell, way, 2)[1]]]
        return self.one_of(fit, inner + [(self.wood_near(pile), self.way()), (self.cell(), self.way())])

    def handed(self, name):
        pile, block, way = self.pile(), self.block(), self.way()
        return {
            "heap": lambda: (), "lay": lambda: (pile, self.cells()), "burn": lambda: (block,),
            "carve": lambda: (pile, self.wood_near(pile)), "plug": lambda: (block, self.near(block)),
            "saw": self.cut, "peg": lambda: (pile, *self.rod(pile), self.one_of((2, 2, 2, 3), LENGTHS)),
            "unpeg": lambda: (self.one_of(self.model.rods, (-1, 99)),),
            "pull": lambda: (pile, way, self.group(pile, way)), "home": lambda: (pile, self.pile(), way),
            "turn": lambda: (pile, self.one_of(TURNS, [("west", "north", "up"), ("", "up", "x")])),
            "shift": lambda: (pile, self.one_of([(0, 0, 0), (1, 0, -1), (0, 2, 0)], [(40, 0, 0), (0, 0, -10 ** 29)])),
            "press": lambda: (pile, way), "bar": lambda: (self.line(),), "unbar": lambda: (self.line(),),
            "draft": lambda: (pile,),
        }[name]()


class WoodCase(unittest.TestCase):
    """A test case that also looks at kinds: True is no 1, and a tuple is no list."""

    def same(self, told, wanted):
        self.assertEqual(told, wanted)
        self.assertEqual(repr(told), repr(wanted))

    def refused(self, kind, word, call, *handed):
        with self.assertRaises(kind) as caught:
            call(*handed)
        self.assertIs(type(caught.exception), kind)
        self.assertEqual(caught.exception.word, word)
        return caught.exception

    def is_stack(self, told, numbers):
        """The form of [6], with just these numbers."""
        self.assertIs(type(told), list)
        self.assertEqual([number for number, cells in told], numbers)
        for block in told:
            self.assertIs(type(block), tuple)
            self.assertIs(type(block[1]), list)
            self.assertEqual(block[1], sorted(block[1]))
            self.assertEqual({(type(cell), len(cell)) for cell in block[1]}, {(tuple, 3)})
        cells = [cell for number, cells in told for cell in cells]
        self.assertEqual(len(cells), len(set(cells)))

    def keeps_nothing(self, call, *handed):
        """What is handed in stays as it was, and neither it nor what is told is kept by the program or by the other."""
        given = copy.deepcopy(handed)
        told = call(*given)
        self.same(given, handed)
        wanted = copy.deepcopy(told)
        spoil(given)
        self.same(told, wanted)
        given = copy.deepcopy(handed)
        spoil(call(*given))
        self.same(given, handed)
        self.same(call(*given), wanted)
