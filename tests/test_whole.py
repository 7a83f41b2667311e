"""[21] the desk, held against the parts, and [3] over the whole: what is kept tells what is made afresh."""

import unittest

from belowpoints.chains.covers import cover_of, cover_shown, crowd_of
from belowpoints.chains.stairs import longest_chains, stairs_of
from belowpoints.counts.halves import halves_of, halves_shown
from belowpoints.counts.pairs import above_each, below_each, pairs_in_all
from belowpoints.errors import BelowError, NoAsk, NoName, NoPlace
from belowpoints.heaps.boxes import in_boxes, nth_by_x
from belowpoints.heaps.texts import points_shown, read_points
from belowpoints.kept import KeptPoints
from belowpoints.whole import Desk
from examples import (
    FALLING, GREAT, HEAPS, MIXED, NONE, ONE, SAME_PLACE, SIXTY_MIDDLE, SIXTY_NARROW, SIXTY_RISING, SIXTY_WIDE,
    above_one_by_one, below_one_by_one, change_kept, comings_and_goings, pairs_one_by_one,
)

MOST = 9999999999
ALL = (-MOST, -MOST, MOST, MOST)
WITHOUT_NUMBERS = ("points", "counts", "pairs", "halves", "stairs", "longest", "crowd")


def desk_of(points):
    desk = Desk()
    for name, x, y in points:
        desk.ask(f"put {name} {x} {y}")
    return desk


def all_told(desk):
    return [desk.ask(word) for word in WITHOUT_NUMBERS]


def rows(parts):
    return [" ".join(str(part) for part in row) for row in parts]


def places_round(points):
    places = [(0, 0), (MOST, MOST), (-MOST, -MOST), (MOST, -MOST)]
    for name, x, y in points[:5] + points[-1:]:
        places.extend([(x, y), (max(x - 1, -MOST), y), (x, min(y + 1, MOST))])
    return places


class Asking(unittest.TestCase):
    def assert_told(self, desk, told):
        for line, answer in told.items():
            with self.subTest(line=line):
                self.assertEqual(desk.ask(line), answer)
                self.assertEqual(desk.ask(line=line), answer)

    def assert_holds(self, desk, points):
        points = tuple(points)
        length, many, chain = longest_chains(points)
        self.assert_told(desk, {
            "points": points_shown(points).split("\n") if points else [],
            "counts": rows(zip([point[0] for point in points], below_one_by_one(points), above_one_by_one(points))),
            "pairs": [str(pairs_one_by_one(points))],
            "halves": rows(halves_of(points)),
            "stairs": rows(stairs_of(points)),
            "longest": rows([(length, many), chain] if points else [(length, many)]),
            "crowd": rows([crowd_of(points)] if points else []),
        })
        for x, y in places_round(points):
            below = [point for point in points if point[1] <= x and point[2] <= y and point[1:] != (x, y)]
            above = [point for point in points if point[1] >= x and point[2] >= y and point[1:] != (x, y)]
            self.assertEqual(desk.ask(f"below {x} {y}"), [str(len(below))])
            self.assertEqual(desk.ask(f"above {x} {y}"), [str(len(above))])
            self.assertEqual(desk.ask(f"box {x} {y} {x} {y}"), rows([in_boxes(points, ((x, y, x, y),))]))
            self.assertEqual(desk.ask(f"box {x} {y} {MOST} {MOST}"), rows([in_boxes(points, ((x, y, MOST, MOST),))]))
            self.assertEqual(desk.ask(f"box {-MOST} {-MOST} {x} {y}"), rows([in_boxes(points, ((-MOST, -MOST, x, y),))]))
        ordered = sorted(points, key=lambda point: point[1:])
        for place, point in enumerate(ordered):
            self.assertEqual(desk.ask(f"nth {place} {-MOST} {-MOST} {MOST} {MOST}"), [point[0]])

    def test_none(self):
        self.assert_told(Desk(), {
            "points": [], "counts": [], "pairs": ["0"], "halves": [], "stairs": [], "longest": ["0 1"], "crowd": [],
            "below 0 0": ["0"], "above 0 0": ["0"], "box 0 0 0 0": ["0"],
        })

    def test_one(self):
        desk = Desk()
        self.assertEqual(desk.ask("put one 3 -4"), [])
        self.assert_told(desk, {
            "points": ["one 3 -4"], "counts": ["one 0 0"], "pairs": ["0"], "halves": [], "stairs": ["one"],
            "longest": ["1 1", "one"], "crowd": ["one"], "below 3 -4": ["0"], "above 3 -4": ["0"], "below 3 -3": ["1"],
            "above 2 -4": ["1"], "box 3 -4 3 -4": ["1"], "box 4 -4 3 -4": ["0"], "nth 0 3 -4 3 -4": ["one"],
        })

    def test_several(self):
        desk = Desk()
        for line in ("put a 0 0", "put b 2 1", "put c 1 2", "put dd 2 1"):
            self.assertEqual(desk.ask(line), [])
        self.assert_told(desk, {
            "points": ["a 0 0", "b 2 1", "c 1 2", "dd 2 1"],
            "counts": ["a 0 3", "b 1 0", "c 1 0", "dd 1 0"],
            "pairs": ["3"],
            "halves": ["0 4 2", "0 2 1", "2 4 0"],
            "stairs": ["c b dd", "a"],
            "longest": ["2 3", "a b"],
            "crowd": ["b c dd"],
            "below 2 1": ["1"],
            "below 2 2": ["4"],
            "above 0 0": ["3"],
            "above 0 1": ["3"],
            "box 1 0 2 1": ["2"],
            "box 1 0 2 0": ["0"],
            "nth 0 0 0 2 2": ["a"],
            "nth 1 0 0 2 2": ["c"],
            "nth 2 0 0 2 2": ["b"],
            "nth 3 0 0 2 2": ["dd"],
            "nth 1 2 0 2 9": ["dd"],
        })

    def test_all_heaps(self):
        for points in HEAPS:
            self.assert_holds(desk_of(points), points)

    def test_changes_tell_an_empty_list(self):
        desk = Desk()
        for line in ("put a 0 0", "put b 5 5", "move a 7 7", "move a 7 7", "take b", "put b -1 -1", "take a", "take b"):
            told = desk.ask(line)
            self.assertIs(type(told), list)
            self.assertEqual(told, [])

    def test_behind_changes(self):
        desk = desk_of(MIXED)
        left = list(MIXED)
        desk.ask("take ac")
        left.pop(2)
        self.assert_holds(desk, left)
        desk.ask("move ab -5 8")
        left[1] = ("ab", -5, 8)
        self.assert_holds(desk, left)
        desk.ask("move ab -5 8")
        self.assert_holds(desk, left)
        desk.ask("put ac 1 2")
        left.append(("ac", 1, 2))
        self.assert_holds(desk, left)
        for name in [point[0] for point in left]:
            desk.ask(f"take {name}")
        self.assert_holds(desk, ())

    def test_comings_and_goings(self):
        desk = Desk()
        kept = KeptPoints()
        for turn, (word, point, held) in enumerate(comings_and_goings(SIXTY_NARROW[:14], 240, 11)):
            change_kept(kept, word, point)
            name, x, y = point
            self.assertEqual(desk.ask(f"take {name}" if word == "take" else f"{word} {name} {x} {y}"), [])
            self.assertEqual(kept.points_now(), held)
            self.assertEqual(read_points("\n".join(desk.ask("points"))), held)
            if turn % 8 == 0:
                self.assert_holds(desk, held)
                self.assertEqual(all_told(desk), all_told(desk_of(held)))
                self.assert_kept_like_afresh(kept, held)

    def assert_kept_like_afresh(self, kept, points):
        self.assertEqual(kept.pairs_now(), pairs_in_all(points))
        self.assertEqual(sum(crossings for first, behind, crossings in halves_of(points)), kept.pairs_now())
        self.assertTrue(halves_shown(kept.points_now(), halves_of(points)))
        for turn, (name, x, y) in enumerate(points):
            self.assertEqual(kept.below_now(x, y), below_each(points)[turn])
            self.assertEqual(kept.above_now(x, y), above_each(points)[turn])
        for box in (ALL, (0, 0, 2, 2), (-1, -2, 1, 0)):
            self.assertEqual(kept.box_now(box), in_boxes(points, (box,))[0])

    def test_crowd_is_let_by(self):
        for points in HEAPS:
            told = desk_of(points).ask("crowd")
            self.assertEqual(len(told), 1 if points else 0)
            crowd = tuple(told[0].split(" ")) if told else ()
            self.assertIs(cover_shown(points, cover_of(points), crowd), True)
            names = [point[0] for point in points]
            self.assertEqual(list(crowd), sorted(crowd, key=names.index))

    def test_greatest_numbers(self):
        desk = desk_of(GREAT)
        self.assert_holds(desk, GREAT)
        desk.ask(f"move aa {MOST} {-MOST}")
        desk.ask(f"move ab {-MOST} {MOST}")
        self.assertEqual(desk.ask("points")[:2], [f"aa {MOST} {-MOST}", f"ab {-MOST} {MOST}"])

    def test_longest_names(self):
        desk = Desk()
        desk.ask("put abcdefgh 1 1")
        desk.ask("put z 2 2")
        self.assertEqual(desk.ask("longest"), ["2 1", "abcdefgh z"])
        desk.ask("move abcdefgh 3 3")
        self.assertEqual(desk.ask("longest"), ["2 1", "z abcdefgh"])
        desk.ask("take abcdefgh")
        self.assertEqual(desk.ask("points"), ["z 2 2"])

    def test_names_like_the_words_of_lines(self):
        desk = Desk()
        for turn, name in enumerate(("put", "take", "points", "nth", "name", "number", "place")):
            self.assertEqual(desk.ask(f"put {name} {turn} {turn}"), [])
        self.assertEqual(desk.ask("longest"), ["7 1", "put take points nth name number place"])
        desk.ask("take put")
        self.assertEqual(desk.ask("points")[0], "take 1 1")

    def test_many_chains(self):
        desk = desk_of(tuple((name, turn // 3, turn // 3) for turn, (name, x, y) in enumerate(SIXTY_RISING)))
        self.assertEqual(desk.ask("longest")[0], f"20 {3 ** 20}")

    def test_a_great_place(self):
        desk = desk_of(ONE)
        with self.assertRaises(NoPlace):
            desk.ask("nth 9999999999 0 0 0 0")

    def test_told_lists_are_the_askers_own(self):
        desk = desk_of(MIXED)
        before = all_told(desk)
        kept = all_told(desk)
        for line in WITHOUT_NUMBERS + ("below 9 9", "above -9 -9", "box 0 0 1 1", "nth 0 0 0 1 1", "move aa 0 0"):
            told = desk.ask(line)
            told.append("more")
            told.reverse()
            self.assertEqual(all_told(desk), before)
            self.assertNotIn("more", desk.ask(line))
        told = desk.ask("points")
        desk.ask("take aa")
        desk.ask("move ab 7 7")
        self.assertEqual(told, before[0])
        self.assertEqual(kept, before)

    def test_two_by_turns(self):
        one = Desk()
        other = Desk()
        one.ask("put a 1 1")
        self.assert_holds(other, ())
        other.ask("put a 5 5")
        other.ask("put b 6 6")
        self.assert_holds(one, (("a", 1, 1),))
        one.ask("move a 2 2")
        self.assert_holds(other, (("a", 5, 5), ("b", 6, 6)))
        other.ask("take a")
        self.assert_holds(one, (("a", 2, 2),))
        self.assert_holds(other, (("b", 6, 6),))
        with self.assertRaises(NoName):
            one.ask("take b")

    def test_kinds(self):
        for points in (NONE, ONE, MIXED, SIXTY_WIDE):
            desk = desk_of(points)
            for line in WITHOUT_NUMBERS + ("below 0 0", "above 0 0", "box 0 0 9 9"):
                told = desk.ask(line)
                self.assertIs(type(told), list)
                self.assertEqual({type(row) for row in told} - {str}, set())
                self.assertEqual(desk.ask(line), told)


class Refusing(unittest.TestCase):
    def assert_refused(self, points, line, refusal):
        desk = desk_of(points)
        before = all_told(desk)
        for ask in (lambda: desk.ask(line), lambda: desk.ask(line=line)):
            with self.assertRaises(BelowError) as held:
                ask()
            self.assertIs(type(held.exception), refusal, line)
            self.assertEqual(all_told(desk), before, line)
        return held.exception

    def assert_no_ask(self, *lines):
        for line in lines:
            self.assert_refused(NONE, line, NoAsk)
            self.assert_refused(MIXED, line, NoAsk)

    def test_without_words(self):
        self.assert_no_ask("", " ", "  ", "\n", "\n\n")

    def test_other_words(self):
        self.assert_no_ask(
            "point", "pointss", "Points", "POINTS", "PUT a 1 2", "Put a 1 2", "add a 1 2", "get", "below", "quit", "0",
            "a", "aa", "a 1 2", "aa 0 0", "name", "number", "put_point a 1 2", "stair", "halve", "nth_by_x", "-",
            "pairs_now", "cover", "heaviest", "weights", "ask", "help", "?", "#", "put,a,1,2", "put:a 1 2",
        )

    def test_words_too_many_or_too_few(self):
        for word in WITHOUT_NUMBERS:
            self.assert_no_ask(f"{word} aa", f"{word} 0", f"{word} {word}", f"{word} 0 0")
        self.assert_no_ask("put", "put zz", "put zz 1", "put zz 1 2 3", "put 1 2", "put zz 1 2 zz")
        self.assert_no_ask("take", "take aa ab", "take aa 0", "take aa 0 0")
        self.assert_no_ask("move", "move aa", "move aa 1", "move aa 1 2 3", "move 1 2")
        self.assert_no_ask("below", "below 1", "below 1 2 3", "above", "above 1", "above 1 2 3")
        self.assert_no_ask("box", "box 0", "box 0 0", "box 0 0 1", "box 0 0 1 1 1")
        self.assert_no_ask("nth", "nth 0", "nth 0 0 0 1", "nth 0 0 0 1 1 1", "nth 0 0 0")

    def test_blanks(self):
        lines = WITHOUT_NUMBERS + (
            "put zz 1 2", "take aa", "move aa 1 2", "below 1 2", "above 1 2", "box 0 0 1 1", "nth 0 0 0 1 1",
        )
        for line in lines:
            self.assert_no_ask(" " + line, line + " ", "  " + line, line + "  ", line + "\n", "\n" + line, line + "\t")
            for at, sign in enumerate(line):
                if sign == " ":
                    for between in ("  ", "\t", "\n", " \n", "", ",", "_"):
                        self.assert_no_ask(line[:at] + between + line[at + 1:])

    def test_names_that_are_none(self):
        names = (
            "abcdefghi", "A", "AA", "aA", "Aa", "", "a1", "1a", "0", "a_b", "a-b", "a.b", "-", "_", "~", "!", "a\n",
            "abcdefghijklmnop",
        )
        for name in names:
            self.assert_no_ask(f"put {name} 1 2", f"take {name}", f"move {name} 1 2")

    def test_numbers_that_are_none(self):
        numbers = (
            "01", "00", "-01", "+1", "+0", "-0", "--1", "-", "", "1.0", "1.", "1e3", "1_0", "0x1", "a", "x", "1-", "1\n",
            "0000000000", "10000000000", "-10000000000", "12345678901", "-99999999999", "00000000001", "9" * 3000,
        )
        for number in numbers:
            self.assert_no_ask(
                f"put zz {number} 2", f"put zz 2 {number}", f"move aa {number} 2", f"move aa 2 {number}",
                f"below {number} 2", f"below 2 {number}", f"above {number} 2", f"above 2 {number}",
                f"nth {number} 0 0 5 5",
            )
            for at in range(4):
                words = ["0", "0", "1", "1"]
                words[at] = number
                box = " ".join(words)
                self.assert_no_ask(f"box {box}", f"nth 0 {box}")

    def test_places_below_nought(self):
        for place in ("-1", "-2", "-8", "-9999999999"):
            self.assert_no_ask(f"nth {place} -9 -9 9 9", f"nth {place} 5 5 0 0")

    def test_names_that_are_there(self):
        for name, x, y in MIXED:
            for line in (f"put {name} {x} {y}", f"put {name} 70 -70"):
                self.assertEqual(self.assert_refused(MIXED, line, NoName).word, name)

    def test_names_that_are_not_there(self):
        for points in (NONE, MIXED, SIXTY_WIDE):
            for name in ("zz", "a", "abcdefgh", "put"):
                for line in (f"take {name}", f"move {name} 0 0", f"move {name} -9999999999 9999999999"):
                    self.assertEqual(self.assert_refused(points, line, NoName).word, name)

    def test_behind_being_taken_out(self):
        desk = desk_of(MIXED)
        desk.ask("take ab")
        for line in ("take ab", "move ab 2 1"):
            with self.assertRaises(NoName):
                desk.ask(line)
        self.assertEqual(desk.ask("put ab 2 1"), [])
        with self.assertRaises(NoName):
            desk.ask("put ab 2 1")

    def test_nth_beyond_the_last(self):
        for points in (NONE, ONE, MIXED, SAME_PLACE, SIXTY_MIDDLE):
            for place in (len(points), len(points) + 1, MOST):
                self.assert_refused(points, f"nth {place} {-MOST} {-MOST} {MOST} {MOST}", NoPlace)
            self.assert_refused(points, "nth 0 5 5 4 5", NoPlace)
            self.assert_refused(points, "nth 0 5 5 5 4", NoPlace)
        self.assertEqual(desk_of(MIXED).ask("nth 2 0 0 1 1"), [nth_by_x(MIXED, (0, 0, 1, 1), 2)])
        self.assert_refused(MIXED, "nth 3 0 0 1 1", NoPlace)

    def test_a_put_where_there_are_sixty(self):
        for points in (SIXTY_WIDE, SIXTY_NARROW):
            self.assert_refused(points, "put zz 1 2", NoAsk)
            for name, x, y in points[:2] + points[-2:]:
                self.assert_refused(points, f"put {name} {x} {y}", NoAsk)
                self.assert_refused(points, f"put {name} 1 2", NoAsk)

    def test_up_to_sixty(self):
        desk = desk_of(SIXTY_MIDDLE[:59])
        self.assertEqual(desk.ask("put zz 1 2"), [])
        with self.assertRaises(NoAsk):
            desk.ask("put zy 1 2")
        self.assertEqual(desk.ask("move zz 3 4"), [])
        self.assertEqual(desk.ask("take zz"), [])
        with self.assertRaises(NoName):
            desk.ask("put aa 1 2")
        self.assertEqual(desk.ask("put zy 1 2"), [])
        self.assertEqual(desk.ask("points")[-1], "zy 1 2")
        self.assertEqual(len(desk.ask("points")), 60)
        self.assertEqual(self.assert_refused(SIXTY_MIDDLE[:59], "put aa 1 2", NoName).word, "aa")

    def test_of_several_the_one_told_first(self):
        for line in (
            "put aa 01 2", "put aa 1 10000000000", "put aa 1", "put aa 1 2 3", "put aa  1 2", "take zz ", "take zz zz",
            "take ZZ", "move zz 01 2", "move zz 1 -0", "move zz 1", "nth -1 5 5 0 0", "nth 99 5 5 0 00", "nth 99 5 5 0",
            "nth 10000000000 0 0 1 1",
        ):
            self.assert_refused(MIXED, line, NoAsk)
            self.assert_refused(SIXTY_WIDE, line, NoAsk)

    def test_at_sixty_other_lines_go_on(self):
        desk = desk_of(FALLING + tuple(("z" + name, x, y) for name, x, y in SIXTY_WIDE[:51]))
        self.assertEqual(len(desk.ask("points")), 60)
        self.assertEqual(self.assert_refused(SIXTY_WIDE, "take zz", NoName).word, "zz")
        self.assertEqual(self.assert_refused(SIXTY_WIDE, "move zz 1 2", NoName).word, "zz")
        self.assertEqual(desk.ask("move aa 4 4"), [])
        self.assertEqual(desk.ask("take aa"), [])

    def test_goes_on_behind_a_refusal(self):
        desk = Desk()
        for line in ("put a 01 2", "take a", "put a 1 2 3", "nth 0 0 0 0 0", "move a 1 1", "what"):
            with self.assertRaises(BelowError):
                desk.ask(line)
        self.assertEqual(desk.ask("put a 1 2"), [])
        self.assertEqual(desk.ask("points"), ["a 1 2"])


if __name__ == "__main__":
    unittest.main()
