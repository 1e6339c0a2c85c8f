"""The workshop: piles of blocks, pegs through them, and plans that are kept."""

from gripwood.bodies import (bodies_of, body_along, body_core, body_knots, body_plan, body_press, first_bad, is_torn,
                             stack_of_bodies)
from gripwood.checks import (check_bounds, check_cells, check_deeds, check_measure, check_pegs, check_room,
                             check_untaken, check_way_out)
from gripwood.errors import (Barred, Held, Last, Loose, NoBlock, NoCut, NoPeg, NoPile, NoPlan, NotBarred, NoWood, Same,
                             Torn, Whole)
from gripwood.shapes import cut, hangs, pieces
from gripwood.stacks import cells_of, check_blocks, part_of
from gripwood.turning import check_turn, turned_cells
from gripwood.ways import back, check_line, check_way, line_of, lines, step


def fresh_deed(deed):
    """The same deed with lists of its own."""
    return tuple([list(one) if isinstance(one, list) else one for one in deed])


class Workshop:
    """Piles, blocks, pegs and plans, and the deeds that change them.

    Each deed looks for all that it refuses before it changes anything.
    """

    def __init__(self):
        self.heaps = {}
        # By their numbers, each with its pile: the cells of blocks, the rows of pegs, the pulls of plans. These lists
        # are never changed, only others put in their stead, so that twins may share them.
        self.wood = {}
        self.rods = {}
        self.drafts = {}
        self.bars = {}
        self.to_come = {"pile": 0, "block": 0, "peg": 0, "plan": 0}
        self.story = []

    def heap(self):
        """A new pile without blocks."""
        self.record("heap")
        return self.new_pile()

    def lay(self, pile, cells):
        """A new block."""
        check_cells(cells)
        if not hangs(cells):
            raise Loose("the cells do not hang together")
        owners = self.owners(pile)
        check_untaken(cells, owners)
        check_room(len(self.blocks(pile)) + 1, len(owners) + len(cells))
        self.record("lay", pile, cells)
        return self.new_block(pile, sorted(cells))

    def burn(self, block):
        """The block is gone."""
        pile = self.where(block)
        self.check_unheld(pile, self.cells(block))
        self.record("burn", block)
        del self.wood[block]

    def carve(self, pile, cell):
        """A cell is taken off its block; tells the new blocks into which this falls."""
        owners = self.owners(pile)
        if cell not in owners:
            raise NoWood(f"no block has {cell}")
        self.check_unheld(pile, [cell])
        block = owners[cell]
        left = [other for other in self.cells(block) if other != cell]
        if not left:
            raise Last(f"{block} has no other cell")
        parts = pieces(left)
        self.check_parts(pile, parts)
        self.record("carve", pile, cell)
        return self.fall_apart(block, parts)

    def plug(self, block, cell):
        """The block has one cell more."""
        check_cells([cell])
        pile = self.where(block)
        owners = self.owners(pile)
        check_untaken([cell], owners)
        cells = self.cells(block) + [cell]
        if not hangs(cells):
            raise Loose(f"{cell} touches no cell of {block}")
        check_room(len(self.blocks(pile)), len(owners) + 1)
        self.record("plug", block, cell)
        self.wood[block] = (pile, sorted(cells))

    def saw(self, block, line, at):
        """A cut through a block; tells the new blocks into which it falls."""
        check_line(line)
        less, rest = cut(self.cells(block), line, at)
        if not less or not rest:
            raise NoCut(f"all cells of {block} are on one side")
        parts = sorted(pieces(less) + pieces(rest))
        self.check_parts(self.where(block), parts)
        self.record("saw", block, line, at)
        return self.fall_apart(block, parts)

    def peg(self, pile, cell, way, many):
        """A peg through many cells from a cell on."""
        check_way(way)
        check_measure(many)
        owners = self.owners(pile)
        row = [step(cell, way, steps) for steps in range(many)]
        if any(one not in owners for one in row):
            raise NoWood("a cell is no wood")
        if all(owners[one] == owners[cell] for one in row):
            raise Same("all cells are of one block")
        check_pegs(len(self.rods) + 1)
        self.record("peg", pile, cell, way, many)
        number = self.next_number("peg")
        self.rods[number] = (pile, row)
        return number

    def unpeg(self, peg):
        """The peg is gone."""
        self.check_peg(peg)
        self.record("unpeg", peg)
        del self.rods[peg]

    def pull(self, pile, way, blocks):
        """A group is pulled out and becomes a new pile."""
        check_way(way)
        stack = self.stack(pile)
        check_blocks(stack, blocks)
        group = sorted(set(blocks))
        if not group or len(group) == len(stack):
            raise Whole("a pull takes a block and leaves one")
        if is_torn(self.bodies(pile), group):
            raise Torn("a body is in it in part")
        self.check_unbarred(way)
        check_way_out(stack, way, group)
        self.record("pull", pile, way, blocks)
        number = self.new_pile()
        self.carry(pile, group, number)
        return number

    def home(self, pile, other, way):
        """The other pile is brought into the pile."""
        check_way(way)
        owners = self.owners(pile)
        brought = self.owners(other)
        if pile == other:
            raise Same("a pile is not brought into itself")
        check_untaken(list(brought), owners)
        self.check_unbarred(way)
        both = sorted(self.stack(pile) + self.stack(other))
        check_way_out(both, back(way), self.blocks(other))
        check_room(len(both), len(owners) + len(brought))
        self.record("home", pile, other, way)
        self.carry(other, self.blocks(other), pile)
        del self.heaps[other]

    def turn(self, pile, turn):
        """The pile is turned about (0, 0, 0)."""
        check_turn(turn)
        cells = cells_of(self.stack(pile))
        self.record("turn", pile, turn)
        self.lead(pile, dict(zip(cells, turned_cells(cells, turn))))

    def shift(self, pile, by):
        """Each cell of the pile is shifted by three numbers."""
        east, north, up = by
        leads = {(x, y, z): (x + east, y + north, z + up) for x, y, z in cells_of(self.stack(pile))}
        check_bounds(list(leads.values()))
        self.record("shift", pile, by)
        self.lead(pile, leads)

    def press(self, pile, way):
        """The bodies of the pile are pressed."""
        check_way(way)
        leads = body_press(self.stack(pile), self.bodies(pile), way)
        self.record("press", pile, way)
        self.lead(pile, leads)

    def bar(self, line):
        """The line is barred."""
        check_line(line)
        if line in self.bars:
            raise Barred(f"{line} is barred already")
        self.record("bar", line)
        self.bars[line] = True

    def unbar(self, line):
        """The line is barred no more."""
        check_line(line)
        if line not in self.bars:
            raise NotBarred(f"{line} is not barred")
        self.record("unbar", line)
        del self.bars[line]

    def draft(self, pile):
        """A plan of the pile is kept."""
        pulls = body_plan(self.stack(pile), self.bodies(pile), self.unbarred())
        self.record("draft", pile)
        number = self.next_number("plan")
        self.drafts[number] = (pile, pulls)
        return number

    def piles(self):
        """The numbers of all piles."""
        return sorted(self.heaps)

    def blocks(self, pile):
        """The numbers of all blocks of a pile."""
        self.check_pile(pile)
        return sorted([number for number in self.wood if self.wood[number][0] == pile])

    def pegs(self):
        """The numbers of all pegs."""
        return sorted(self.rods)

    def cells(self, block):
        """The cells of a block."""
        self.check_block(block)
        return list(self.wood[block][1])

    def where(self, block):
        """The pile of a block."""
        self.check_block(block)
        return self.wood[block][0]

    def peg_cells(self, peg):
        """The cells of a peg, in the order in which it goes."""
        self.check_peg(peg)
        return list(self.rods[peg][1])

    def barred(self):
        """The barred lines, in their order."""
        return [line for line in lines() if line in self.bars]

    def stack(self, pile):
        """The stack of the blocks of a pile."""
        return [(number, self.cells(number)) for number in self.blocks(pile)]

    def bodies(self, pile):
        """The bodies of a pile, by their first blocks."""
        return bodies_of(self.stack(pile), [self.peg_cells(number) for number in self.pegs_of(pile)])

    def body_stack(self, pile):
        """The stack of the bodies of a pile."""
        return stack_of_bodies(self.stack(pile), self.bodies(pile))

    def knots(self, pile):
        """The knots of a pile, by their first blocks."""
        return body_knots(self.stack(pile), self.bodies(pile), self.unbarred())

    def along(self, pile, way, blocks):
        """The least group of whole bodies that has the blocks and goes out."""
        check_way(way)
        stack = self.stack(pile)
        check_blocks(stack, blocks)
        return body_along(stack, self.bodies(pile), way, blocks)

    def core(self, pile):
        """The core of a pile."""
        return body_core(self.stack(pile), self.bodies(pile), self.unbarred())

    def plan(self, number):
        """The pulls of a kept plan."""
        self.check_plan(number)
        return [(way, list(group)) for way, group in self.drafts[number][1]]

    def plan_pile(self, number):
        """The pile of which a kept plan was made."""
        self.check_plan(number)
        return self.drafts[number][0]

    def plan_good(self, number):
        """The place of the first pull of a kept plan that could not be done now; None where all could."""
        pulls = self.plan(number)
        pile = self.plan_pile(number)
        if pile not in self.heaps:
            return 0 if pulls else None
        return first_bad(self.stack(pile), self.bodies(pile), self.unbarred(), pulls)

    def journal(self):
        """The deeds that were done."""
        return [fresh_deed(deed) for deed in self.story]

    def twin(self):
        """Another workshop that has all that this one has."""
        other = Workshop()
        other.heaps = dict(self.heaps)
        other.wood = dict(self.wood)
        other.rods = dict(self.rods)
        other.drafts = dict(self.drafts)
        other.bars = dict(self.bars)
        other.to_come = dict(self.to_come)
        other.story = list(self.story)
        return other

    def check_pile(self, pile):
        """Refuses a number that is no pile."""
        if pile not in self.heaps:
            raise NoPile(f"{pile} is no pile")

    def check_block(self, block):
        """Refuses a number that is no block."""
        if block not in self.wood:
            raise NoBlock(f"{block} is no block")

    def check_peg(self, peg):
        """Refuses a number that is no peg."""
        if peg not in self.rods:
            raise NoPeg(f"{peg} is no peg")

    def check_plan(self, number):
        """Refuses a number that is no kept plan."""
        if number not in self.drafts:
            raise NoPlan(f"{number} is no plan")

    def check_unheld(self, pile, cells):
        """Refuses cells through which a peg of the pile goes."""
        for number in self.pegs_of(pile):
            if any(cell in cells for cell in self.peg_cells(number)):
                raise Held(number)

    def check_unbarred(self, way):
        """Refuses a way whose line is barred."""
        if line_of(way) in self.bars:
            raise Barred(f"{line_of(way)} is barred")

    def check_parts(self, pile, parts):
        """Refuses parts into which a block of the pile would fall, where there would be too many blocks."""
        stack = self.stack(pile)
        check_room(len(stack) - 1 + len(parts), len(cells_of(stack)))

    def record(self, name, *handed):
        """Writes a deed into the journal, where there is room for it."""
        check_deeds(len(self.story) + 1)
        self.story.append(fresh_deed([name, *handed]))

    def next_number(self, kind):
        """A number that was not given yet."""
        number = self.to_come[kind]
        self.to_come[kind] += 1
        return number

    def new_pile(self):
        """The number of a pile that comes about."""
        number = self.next_number("pile")
        self.heaps[number] = True
        return number

    def new_block(self, pile, cells):
        """The number of a block that comes about."""
        number = self.next_number("block")
        self.wood[number] = (pile, cells)
        return number

    def fall_apart(self, block, parts):
        """The first part stays the block, the others become new ones; tells their numbers."""
        pile = self.where(block)
        first, *others = parts
        self.wood[block] = (pile, first)
        return [self.new_block(pile, part) for part in others]

    def carry(self, pile, group, other):
        """Takes a group of whole bodies from a pile to the other one, with the pegs through it."""
        carried = {cell: True for cell in cells_of(part_of(self.stack(pile), group))}
        for number in group:
            self.wood[number] = (other, self.cells(number))
        for number in self.pegs_of(pile):
            row = self.peg_cells(number)
            if row[0] in carried:
                self.rods[number] = (other, row)

    def lead(self, pile, leads):
        """Puts each cell of a pile where the dict leads it, and the pegs with the cells."""
        for number in self.blocks(pile):
            self.wood[number] = (pile, sorted([leads[cell] for cell in self.cells(number)]))
        for number in self.pegs_of(pile):
            self.rods[number] = (pile, [leads[cell] for cell in self.peg_cells(number)])

    def pegs_of(self, pile):
        """The numbers of all pegs that go through cells of a pile."""
        return [number for number in self.pegs() if self.rods[number][0] == pile]

    def unbarred(self):
        """The lines that are not barred."""
        return [line for line in lines() if line not in self.bars]

    def owners(self, pile):
        """For each cell of a pile the block that has it."""
        return {cell: number for number, cells in self.stack(pile) for cell in cells}
