import itertools
import unittest

from gridframe.sizes import chain, sizes
from tests.helper import told_afresh


def room_of(span, told):
    """The slots of a span and the lines between them, one by one."""
    first, behind, _ = span
    room = 0
    for slot in range(first, behind):
        room += told[slot] + (1 if slot > first else 0)
    return room


def sizes_by_growing(spans, many):
    """From the first slot on, each grows from 1 until no span that ends with it lacks room."""
    told = []
    for slot in range(many):
        told.append(1)
        while any(behind == slot + 1 and room_of((first, behind, need), told) < need for first, behind, need in spans):
            told[slot] += 1
    return told


def chain_by_slots(spans, told, slot):
    """The chain of the slots up to this one."""
    if slot < 0:
        return []
    if told[slot] == 1:
        return chain_by_slots(spans, told, slot - 1)
    for at, span in enumerate(spans):
        if span[1] - 1 == slot and room_of(span, told) == span[2]:
            return chain_by_slots(spans, told, span[0] - 1) + [at]
    raise AssertionError("no span is without room to spare")


def chosen_spans(many, count, most, state):
    """Some spans, the same ones for the same state."""
    spans = []
    for _ in range(count):
        drawn = []
        for _ in range(3):
            state[0] = (state[0] * 1103515245 + 12345) % 2 ** 31
            drawn.append(state[0] >> 16)
        first = drawn[0] % many
        spans.append((first, first + 1 + drawn[1] % (many - first), drawn[2] % (most + 1)))
    return spans


class Slots(unittest.TestCase):
    def holds(self, spans, many):
        self.has_room(spans, sizes(spans, many), many)
        self.is_chain(spans, many)

    def has_room(self, spans, told, many):
        self.assertEqual(told, sizes_by_growing(spans, many))
        self.assertEqual(len(told), many)
        self.assertTrue(all(size >= 1 for size in told))
        for span in spans:
            self.assertGreaterEqual(room_of(span, told), span[2])

    def is_chain(self, spans, many):
        told = sizes(spans, many)
        places = chain(spans, many)
        self.assertEqual(places, chain_by_slots(spans, told, many - 1))
        reached = 0
        shown = many
        for at in places:
            first, behind, need = spans[at]
            self.assertGreaterEqual(first, reached)
            reached = behind
            lines, slots = behind - first - 1, behind - first
            shown += need - lines - slots
        self.assertEqual(shown, sum(told))

    def tells(self, expected, places, spans, many):
        self.assertEqual(told_afresh(self, sizes, spans, many), expected)
        self.assertEqual(told_afresh(self, chain, spans, many), places)
        self.holds(spans, many)


class Spans(Slots):
    def test_no_spans(self):
        self.tells([1], [], [], 1)
        self.tells([1] * 16, [], [], 16)

    def test_spans_of_one_slot(self):
        self.tells([5], [0], [(0, 1, 5)], 1)
        self.tells([2, 1, 7], [1, 0], [(2, 3, 7), (0, 1, 2)], 3)
        self.tells([2, 3], [0, 1], [(0, 1, 2), (1, 2, 3)], 2)

    def test_a_span_of_several_slots(self):
        self.tells([1, 4], [0], [(0, 2, 6)], 2)
        self.tells([1, 1, 6, 1], [0], [(0, 3, 10)], 4)
        self.tells([1, 1, 1, 5], [0], [(1, 4, 9)], 4)
        self.tells([1] * 15 + [170], [0], [(0, 16, 200)], 16)

    def test_several_that_end_with_one_slot(self):
        self.tells([1, 1, 5], [2], [(0, 3, 6), (1, 3, 6), (2, 3, 5)], 3)
        self.tells([1, 1, 6], [1], [(0, 3, 6), (1, 3, 8), (2, 3, 5)], 3)
        self.tells([1, 1, 7], [0], [(0, 3, 11), (1, 3, 8), (2, 3, 5)], 3)

    def test_earlier_slots_count(self):
        self.tells([4, 1, 3], [0, 1], [(0, 1, 4), (1, 3, 5), (0, 3, 9)], 3)
        self.tells([4, 1, 4], [2], [(0, 1, 4), (1, 3, 5), (0, 3, 11)], 3)
        self.tells([4, 2], [1], [(0, 1, 4), (0, 2, 7)], 2)
        self.tells([4, 1], [0], [(0, 1, 4), (0, 2, 6)], 2)

    def test_the_last_slot_grows(self):
        # What is lacking is lacking where the span ends, not in its first slots.
        self.tells([1, 8, 1], [0], [(0, 2, 10), (1, 3, 10)], 3)
        self.tells([1, 8, 2], [0, 1], [(0, 2, 10), (2, 3, 2), (1, 3, 10)], 3)
        self.tells([1, 8, 2], [2], [(2, 3, 1), (0, 2, 10), (0, 3, 13)], 3)

    def test_needs_of_0(self):
        self.tells([1], [], [(0, 1, 0)], 1)
        self.tells([1, 1, 1], [], [(0, 3, 0), (1, 2, 0), (2, 3, 0)], 3)

    def test_a_need_of_1(self):
        self.tells([1, 1], [], [(0, 1, 1), (1, 2, 1), (0, 2, 1)], 2)

    def test_lines_are_enough(self):
        self.tells([1] * 4, [], [(0, 4, 3)], 4)
        self.tells([1] * 4, [], [(0, 4, 2)], 4)
        self.tells([1] * 16, [], [(0, 16, 15)], 16)

    def test_lines_and_least_slots_are_just_enough(self):
        self.tells([1] * 4, [], [(0, 4, 7)], 4)
        self.tells([1, 1, 1, 2], [0], [(0, 4, 8)], 4)
        self.tells([1] * 16, [], [(0, 16, 31)], 16)
        self.tells([1] * 15 + [2], [0], [(0, 16, 32)], 16)


class Chain(Slots):
    def test_the_first_in_the_list(self):
        self.tells([2, 3], [1], [(0, 1, 2), (0, 2, 6), (1, 2, 3)], 2)
        self.tells([2, 3], [2, 0], [(1, 2, 3), (0, 2, 6), (0, 1, 2)], 2)
        self.tells([4], [1], [(0, 1, 3), (0, 1, 4), (0, 1, 4)], 1)

    def test_one_with_room_to_spare_is_not_in(self):
        self.tells([2, 3], [1, 2], [(1, 2, 2), (0, 1, 2), (1, 2, 3), (0, 2, 5)], 2)
        self.tells([1, 3], [1], [(0, 2, 4), (0, 2, 5)], 2)

    def test_one_that_ends_with_a_slot_of_1_is_not_in(self):
        self.tells([1], [], [(0, 1, 1)], 1)
        self.tells([3, 1], [1], [(0, 2, 5), (0, 1, 3)], 2)
        self.tells([3, 1, 1], [0], [(0, 1, 3), (0, 3, 7), (1, 3, 3)], 3)

    def test_slots_within_a_span_are_passed(self):
        self.tells([5, 2, 3], [2], [(0, 1, 5), (1, 2, 2), (0, 3, 12)], 3)
        self.tells([5, 2, 3], [0, 2], [(0, 1, 5), (1, 2, 2), (1, 3, 6)], 3)
        self.tells([5, 1, 4], [0, 1], [(0, 1, 5), (1, 3, 6)], 3)

    def test_rising_by_slots_not_by_places(self):
        self.tells([2, 3, 4], [2, 1, 0], [(2, 3, 4), (1, 2, 3), (0, 1, 2)], 3)
        self.tells([2, 3, 4], [1, 2, 0], [(2, 3, 4), (0, 1, 2), (1, 2, 3)], 3)


class ManySpans(Slots):
    def test_up_to_two_spans_of_three_slots(self):
        blocks = [(first, behind) for first in range(3) for behind in range(first + 1, 4)]
        every = [block + (need,) for block in blocks for need in range(9)]
        for spans in [[span] for span in every] + [list(pair) for pair in itertools.product(every, repeat=2)]:
            self.holds(spans, 3)

    def test_as_few_as_can_be(self):
        state = [7]
        for _ in range(60):
            spans = chosen_spans(3, 4, 7, state)
            least = min(
                sum(tried) for tried in itertools.product(range(1, 8), repeat=3)
                if all(room_of(span, tried) >= span[2] for span in spans)
            )
            self.assertEqual(sum(sizes(spans, 3)), least)

    def test_many_spans(self):
        state = [15]
        for many in (1, 2, 5, 9, 16, 17):
            for count in (1, 3, 8, 40, 256):
                for most in (3, 12, 60):
                    spans = chosen_spans(many, count, most, state)
                    self.holds(spans, many)
                    told_afresh(self, sizes, spans, many)
                    told_afresh(self, chain, spans, many)


if __name__ == "__main__":
    unittest.main()
