"""Whether standings that are held show that no run has a fault: one pair more, from all of them at once."""

from slipsights.covers import Sheet, planes_of
from slipsights.grids import Ground
from slipsights.patches import bounds_of, is_covered, less_patch, sighted, stepped
from slipsights.patches import with_beliefs, with_places, with_test
from slipsights.plans import WAYS, Go, See, Stop, read_test
from slipsights.runs import slip_range
from slipsights.spans import Span


class Proof:
    """What is held: for positions, tuples of a row and how many of its steps are done, lists of patches."""

    def __init__(self, course, fault, held):
        self.course = course
        self.fault = fault
        self.held = held
        self._planes = planes_of(Ground(course.site, course.plan).grid)
        self._sheets = {}

    def is_right(self):
        """Whether the start and each pair from what is held end without the fault or lead to what is held."""
        plan = self.course.plan
        x, y = plan.start
        near = (-plan.blur, plan.blur)
        begin = (Span((x, x), (x - plan.blur, x + plan.blur), near), Span((y, y), (y - plan.blur, y + plan.blur), near))
        if not self._arrives(0, 0, begin):
            return False
        for position, patches in self.held.items():
            for patch in patches:
                if not self._leaves(position, patch):
                    return False
        return True

    def _leaves(self, position, patch):
        """Whether all goes well behind each pair from a patch at a position."""
        at, done = position
        row = self.course.plan[at]
        if isinstance(row, Go):
            return self._leaves_by_step(at, done, row, patch)
        mark = self.course.site.mark_of(row.mark)
        seen = with_places(patch, mark.low, mark.high)
        for missed in less_patch(patch, seen):
            if not self._goes_on(self.course.leads[at][1], 0, missed):
                return False
        if seen is None:
            return True
        behind = self._with_beliefs_of_yard(sighted(seen, mark.low, mark.high, mark.blur), (0, 0))
        return behind is None or self._goes_on(self.course.leads[at][0], 0, behind)

    def _leaves_by_step(self, at, done, row, patch):
        way = WAYS[row.way]
        going = self._with_beliefs_of_yard(patch, way)
        if going != patch and self.fault == "halted":
            return False
        if going is None:
            return True
        low, high = slip_range(way, self.course.site.slips)
        behind = self.course.after(at, done)
        return self._arrives(behind[0], behind[1], stepped(going, way, low, high))

    def _with_beliefs_of_yard(self, patch, way):
        """The patch with the beliefs from which a way leads to a cell of the yard, or None."""
        width, height = self.course.site.size
        return with_beliefs(patch, (-way[0], -way[1]), (width - 1 - way[0], height - 1 - way[1]))

    def _arrives(self, at, done, patch):
        """Whether all goes well where runs come to the places of a patch, ahead of a row."""
        width, height = self.course.site.size
        inside = with_places(patch, (0, 0), (width - 1, height - 1))
        if self.fault == "barred" and (inside != patch or self._meets_barred(patch)):
            return False
        free = [] if inside is None else [inside]
        for room in self.course.site.rooms:
            if room.barred:
                free = _pieces_outside(free, room)
        for piece in free:
            if not self._goes_on(at, done, piece):
                return False
        return True

    def _meets_barred(self, patch):
        for room in self.course.site.rooms:
            if room.barred and with_places(patch, room.low, room.high) is not None:
                return True
        return False

    def _goes_on(self, at, done, patch):
        """Whether all goes well with a patch ahead of a row, until runs need a pair or end."""
        left = [(at, patch)]
        while len(left) > 0:
            at, patch = left.pop()
            if at == len(self.course.plan):
                continue
            row = self.course.plan[at]
            if isinstance(row, Stop):
                is_well = self._stops(row, patch)
            elif isinstance(row, Go):
                is_well = self._waits_for_step(at, done, row, patch)
            elif isinstance(row, See):
                is_well = self._looks(at, row, patch, left)
            else:
                is_well = True
                for k, piece in enumerate(with_test(patch, read_test(row.test))):
                    if piece is not None:
                        left.append((self.course.leads[at][k], piece))
            if not is_well:
                return False
        return True

    def _stops(self, row, patch):
        room = self.course.site.room_of(row.room)
        return self.fault != "astray" or with_places(patch, room.low, room.high) == patch

    def _waits_for_step(self, at, done, row, patch):
        going = self._with_beliefs_of_yard(patch, WAYS[row.way])
        if going != patch and self.fault == "halted":
            return False
        return going is None or self._is_held((at, done), going)

    def _looks(self, at, row, patch, left):
        """Whether what is seen is held; what is missed goes on and is left."""
        mark = self.course.site.mark_of(row.mark)
        seen = with_places(patch, mark.low, mark.high)
        left.extend([(self.course.leads[at][1], missed) for missed in less_patch(patch, seen)])
        return seen is None or self._is_held((at, 0), seen)

    def _is_held(self, position, patch):
        across, upward = patch
        over, up = self._planes
        if not over.has_all(bounds_of(across)) or not up.has_all(bounds_of(upward)):
            return is_covered(patch, self.held.get(position, []))
        if position not in self._sheets:
            self._sheets[position] = self._sheet_of(self.held.get(position, []))
        return self._sheets[position].has_all(over.bits_of(bounds_of(across)), up.bits_of(bounds_of(upward)))

    def _sheet_of(self, patches):
        """What patches have within the planes: near the yard this is found faster than with the patches."""
        over, up = self._planes
        sheet = Sheet()
        for across, upward in patches:
            across = across & Span(over.beliefs, over.places, across.error)
            upward = upward & Span(up.beliefs, up.places, upward.error)
            if across and upward:
                sheet.take_in(over.bits_of(bounds_of(across)), up.bits_of(bounds_of(upward)))
        return sheet


def _pieces_outside(patches, room):
    """Patches that together have what these ones have with places outside of a room."""
    pieces = []
    for patch in patches:
        pieces.extend(less_patch(patch, with_places(patch, room.low, room.high)))
    return pieces
