"""An editor: a house, its fixed passages, and operations that can be undone."""

from elderways.counting import reachable_count
from elderways.errors import EditorFull, InvalidIndex, PassageFixed, PassageNotFixed, UnknownRevision
from elderways.houses import as_house, check_passage
from elderways.limits import MAX_PASSAGES
from elderways.positions import allowed_positions
from elderways.reachability import plan
from elderways.redundancy import with_passage, without_passage
from elderways.slides import apply_slide


def slid_unless_fixed(house, fixed, slide):
    """Return the house after a slide of a passage that is not fixed."""
    new = apply_slide(house, slide)
    if slide[0] in fixed:
        raise PassageFixed(slide[0])
    return new


class Editor:
    """A house and its fixed passages, which operations change and undo() restores."""

    def __init__(self, house, fixed=()):
        # A state is a pair (house, fixed). There is one for each operation in effect,
        # behind the one at the beginning.
        self._states = [(as_house(house), tuple(fixed))]
        self._log = []

    def _enter(self, name):
        """Log an operation that begins now."""
        # No operation runs within another one, and nobody can read the log before it ends.
        self._log.extend([("begin", name), ("end", name)])

    def _keep(self, house, fixed):
        """Make this the state after an operation."""
        self._states.append((house, tuple(fixed)))

    def slide(self, index, side, older, direction):
        """Slide one end of a passage; return the rooms of its start and its end afterwards."""
        self._enter("slide")
        house, fixed = self._states[-1]
        new = slid_unless_fixed(house, fixed, (index, side, older, direction))
        self._keep(new, fixed)
        start, end, _ = new[2][index]
        return start, end

    def slide_all(self, slides):
        """Perform a list of slides as one operation, or none of them if one fails."""
        self._enter("slide_all")
        house, fixed = self._states[-1]
        for slide in slides:
            house = slid_unless_fixed(house, fixed, slide)
        self._keep(house, fixed)

    def add(self, passage, index=None):
        """Insert a passage, as the youngest one if no index is given."""
        self._enter("add")
        house, fixed = self._states[-1]
        many = len(house[2])
        if many >= MAX_PASSAGES:
            raise EditorFull(MAX_PASSAGES)
        place = many if index is None else index
        if not 0 <= place <= many:
            raise InvalidIndex(place)
        marks = [mark + 1 if mark >= place else mark for mark in fixed]
        self._keep(with_passage(house, place, passage), marks)

    def remove(self, index):
        """Remove a passage, which may be fixed."""
        self._enter("remove")
        house, fixed = self._states[-1]
        check_passage(house, index)
        marks = [mark - 1 if mark > index else mark for mark in fixed if mark != index]
        self._keep(without_passage(house, index), marks)

    def fix(self, index):
        """Make a passage fixed."""
        self._enter("fix")
        house, fixed = self._states[-1]
        check_passage(house, index)
        if index in fixed:
            raise PassageFixed(index)
        self._keep(house, sorted([*fixed, index]))

    def release(self, index):
        """Make a passage not fixed."""
        self._enter("release")
        house, fixed = self._states[-1]
        check_passage(house, index)
        if index not in fixed:
            raise PassageNotFixed(index)
        self._keep(house, [mark for mark in fixed if mark != index])

    def undo(self):
        """Revert the last operation in effect; return whether there was one."""
        self._enter("undo")
        if len(self._states) == 1:
            return False
        self._states.pop()
        return True

    def house(self):
        """Return the current house."""
        return self._states[-1][0]

    def fixed(self):
        """Return the tuple of the fixed passages' indices."""
        return self._states[-1][1]

    def plan(self, target):
        """Return a plan from the current house to a target."""
        house, fixed = self._states[-1]
        return plan(house, target, fixed)

    def reachable_count(self):
        """Return the number of houses that the current house can become."""
        house, fixed = self._states[-1]
        return reachable_count(house, fixed)

    def positions(self, index):
        """Return the reachable positions of a passage, for a fixed one only its own."""
        house, fixed = self._states[-1]
        check_passage(house, index)
        return allowed_positions(house, index, fixed)

    def current_revision(self):
        """Return the number of operations in effect."""
        return len(self._states) - 1

    def at(self, revision):
        """Return a new editor with the state after that many of the operations in effect."""
        if not 0 <= revision < len(self._states):
            raise UnknownRevision(revision)
        house, fixed = self._states[revision]
        earlier = Editor(house, fixed)
        earlier._states = self._states[:revision + 1]
        return earlier

    def copy(self):
        """Return a new editor with the current state, which can undo the same operations."""
        return self.at(self.current_revision())

    def log(self):
        """Return the pairs that tell how each operation began and ended."""
        return list(self._log)

    def __eq__(self, other):
        """Test whether other is an editor with the same house and the same fixed passages."""
        return isinstance(other, Editor) and self.house() == other.house() and self.fixed() == other.fixed()

    def __len__(self):
        """Return the number of passages."""
        return len(self.house()[2])

    def __repr__(self):
        """Return a text that tells the numbers of rooms and passages."""
        return f"Editor({self.house()[0]} rooms, {len(self.house()[2])} passages)"
