"""Points [2], [3] and [32]: a desk."""

import unittest
from fractions import Fraction

from roofridges.cuts import back, cut
from roofridges.desk import Desk
from roofridges.errors import NoName, NoPoint, NoRow, NoText, RoofError
from roofridges.heights import height
from roofridges.moves import mirrored, mirrored_paces, moved, turned, turned_paces
from roofridges.sets import both, either, less
from roofridges.sums import volume
from roofridges.texts import read_yard, shown_number, shown_yard
from roofridges.yards import size
from tests.helpers import BIG, PACES, SHAPES, VOID, drawn, some_yards

HALL = "0 10 ; 0 6 ; #"
ELL = "0 4 10 ; 0 4 10 ; #. ##"
ROOMS = "0 6 8 14 ; 0 2 4 6 ; #.# ### #.#"


def laid_out():
    desk = Desk()
    for name, text in [("hall", HALL), ("ell", ELL), ("rooms", ROOMS), ("none", "void")]:
        desk.say("yard " + name + " " + text)
    return desk


class RowsTest(unittest.TestCase):
    def setUp(self):
        self.desk = laid_out()

    def check(self, *rows_and_answers):
        for row, answer in rows_and_answers:
            with self.subTest(row=row):
                self.assertEqual(self.desk.say(row), answer)

    def test_yard_and_show(self):
        self.check(("yard a 0 3 7/2 ; 0 1 2 ; #. ##", "ok"), ("show a", "0 3 7/2 ; 0 1 2 ; #. ##"),
                   ("yard b void", "ok"), ("show b", "void"), ("show hall", HALL))

    def test_yard_given_anew_has_its_first_paces_again(self):
        self.check(("paces hall 1 2 3 4", "ok"), ("volume hall", shown_number(volume(read_yard(HALL), (1, 2, 3, 4)))),
                   ("yard hall " + HALL, "ok"), ("volume hall", "72"), ("yard hall void", "ok"), ("show hall", "void"))

    def test_paces(self):
        self.check(("height hall 1 3", "1"), ("paces hall 9 9 9 9", "ok"), ("height hall 1 3", "1/9"),
                   ("paces hall 1 2 3 4", "ok"), ("height hall 9 3", "1/3"), ("height hall 5 1", "1/2"), ("height hall 5 5", "1/4"),
                   ("height hall 1/2 3", "1/2"))

    def test_drop(self):
        self.check(("drop hall", "ok"))
        for row in ("show hall", "drop hall", "cut a hall 1", "paces hall 1 1 1 1"):
            with self.assertRaises(NoName):
                self.desk.say(row)
        self.check(("show ell", ELL), ("yard hall " + ELL, "ok"), ("show hall", ELL))

    def test_cut_and_back(self):
        self.check(("cut a hall 1", "ok"), ("show a", "1 9 ; 1 5 ; #"), ("back b a 1/2", "ok"), ("show b", "1/2 19/2 ; 1/2 11/2 ; #"),
                   ("cut c hall 3", "ok"), ("show c", "void"), ("cut d hall 0", "ok"), ("show d", HALL),
                   ("back e none 7", "ok"), ("show e", "void"), ("show hall", HALL))

    def test_cut_goes_by_the_paces(self):
        self.check(("paces ell 1 3 2 1", "ok"), ("cut a ell 1", "ok"), ("show a", "1 2 8 ; 3 7 9 ; #. ##"),
                   ("back b ell 1", "ok"), ("show b", "-1 6 12 ; -3 1 11 ; #. ##"))

    def test_move_turn_mirror(self):
        self.check(("move a ell 1/2 -3", "ok"), ("show a", "1/2 9/2 21/2 ; -3 1 7 ; #. ##"),
                   ("turn b ell", "ok"), ("show b", "-10 -4 0 ; 0 4 10 ; ## #."),
                   ("mirror c ell", "ok"), ("show c", "-10 -4 0 ; 0 4 10 ; .# ##"),
                   ("turn d none", "ok"), ("show d", "void"), ("show ell", ELL))

    def test_both_either_less(self):
        self.check(("both a hall ell", "ok"), ("show a", "0 4 10 ; 0 4 6 ; #. ##"),
                   ("either b hall ell", "ok"), ("show b", "0 10 ; 0 10 ; #"),
                   ("less c hall ell", "ok"), ("show c", "4 10 ; 0 4 ; #"),
                   ("less d ell hall", "ok"), ("show d", "0 10 ; 6 10 ; #"),
                   ("less e ell ell", "ok"), ("show e", "void"), ("both f ell none", "ok"), ("show f", "void"))

    def test_size_and_volume(self):
        self.check(("size hall", "60"), ("size none", "0"), ("volume hall", "72"), ("volume none", "0"),
                   ("yard a 0 1 ; 0 1/2 ; #", "ok"), ("size a", "1/2"), ("volume a", "5/96"))

    def test_height_and_touched(self):
        self.check(("height hall 5 3", "3"), ("height hall 0 3", "0"), ("height hall -5 3", "0"), ("height hall 1/3 3", "1/3"),
                   ("touched hall 5 3", "north 0, south 6"), ("touched hall 1/3 3", "east 0"), ("touched hall 9 3", "west 10"),
                   ("touched hall 3 3", "east 0, north 0, south 6"), ("touched hall -5 3", "none"), ("touched none 0 0", "none"),
                   ("touched ell 0 0", "east 0, north 0"), ("height none 0 0", "0"))
        self.check(("move a hall 1/2 -1/3", "ok"), ("touched a 5 1/2", "north -1/3"))

    def test_levels_and_top(self):
        self.check(("levels hall", "0 1 0 4, 3 0 0 0"), ("levels rooms", "0 1 0 12, 1 2 0 8, 3 0 0 0"), ("levels none", "none"),
                   ("top hall", "3"), ("top rooms", "3"), ("top none", "none"), ("yard a 0 1 ; 0 1/3 ; #", "ok"), ("top a", "1/6"),
                   ("levels a", "0 1 0 4, 1/6 0 0 0"), ("paces hall 1 2 3 4", "ok"), ("top hall", "1"), ("levels hall", "0 1 0 4, 1 0 0 0"))

    def test_rain(self):
        self.check(("rain hall 1 3", "1 3 1, 0 3 0"), ("rain hall 0 3", "0 3 0"), ("rain hall 1/2 3", "1/2 3 1/2, 0 3 0"),
                   ("yard a 0 4 6 10 ; 0 4 6 10 ; ### #.# ###", "ok"), ("rain a 8 7", "8 7 2, 7 7 1, 6 6 0"))
        for row in ("rain hall -1 3", "rain none 0 0", "rain ell 6 2"):
            with self.assertRaises(NoPoint):
                self.desk.say(row)

    def test_rain_goes_by_the_paces(self):
        self.check(("yard a 0 4 6 10 ; 0 4 6 10 ; ### #.# ###", "ok"), ("paces a 2 4 3 5", "ok"),
                   ("rain a 13/2 7/2", "13/2 7/2 1/4, 31/5 7/2 1/10, 6 4 0"), ("touched a 13/2 7/2", "east 6"))

    def test_alike(self):
        self.check(("alike hall hall", "same 0 plain 0 0"), ("alike hall ell", "unlike"), ("alike none none", "same 0 plain 0 0"),
                   ("alike none hall", "unlike"), ("alike hall none", "unlike"), ("move a hall -1/2 7", "ok"),
                   ("alike hall a", "same 0 plain -1/2 7"), ("alike a hall", "same 0 plain 1/2 -7"),
                   ("yard z 0 1 2 3 ; 0 1 2 ; ##. .##", "ok"), ("mirror y z", "ok"), ("alike z y", "same 0 mirrored 0 0"),
                   ("turn x y", "ok"), ("turn w x", "ok"), ("move w x 5 1/3", "ok"), ("alike z w", "same 1 mirrored 5 1/3"),
                   ("turn v z", "ok"), ("alike z v", "same 1 plain 0 0"))

    def test_each_row_goes_by_its_function(self):
        for place, yard in enumerate(list(SHAPES.values())[:-1] + some_yards(171, 8)):
            if any(len(str(part)) > 60 for lines in yard[:2] for number in lines for part in number):
                continue
            paces = PACES[place % 5]
            desk, other = Desk(), read_yard(ELL)
            self.assertEqual(desk.say("yard a " + shown_yard(yard)), "ok")
            self.assertEqual(desk.say("paces a {} {} {} {}".format(*paces)), "ok")
            self.assertEqual(desk.say("yard o " + ELL), "ok")
            for row, expected in [
                    ("cut b a 1/3", cut(yard, paces, (1, 3))), ("back b a 2/7", back(yard, paces, (2, 7))),
                    ("move b a 1/2 -9", moved(yard, (1, 2), (-9, 1))), ("turn b a", turned(yard)), ("mirror b a", mirrored(yard)),
                    ("both b a o", both(yard, other)), ("either b a o", either(yard, other)), ("less b a o", less(yard, other)),
                    ("less b o a", less(other, yard))]:
                self.assertEqual(desk.say(row), "ok")
                self.assertEqual(desk.say("show b"), shown_yard(expected))
                self.assertEqual(desk.say("size b"), shown_number(size(expected)))
            self.assertEqual(desk.say("volume a"), shown_number(volume(yard, paces)))
            self.assertEqual(desk.say("height a 1/2 3/2"), shown_number(height(yard, paces, (1, 2), (3, 2))))


class PacesTest(unittest.TestCase):
    def paces_of(self, desk, name):
        """Where one stands in a hall, each height at a wall tells one pace."""
        return tuple(1 / Fraction(desk.say("height " + name + " " + point)) for point in ("1 30", "30 1", "59 30", "30 59"))

    def wide(self):
        desk = Desk()
        # In a hall of 60 by 60 a point that is 1 from a wall is stopped by this wall, whatever the paces.
        desk.say("yard a 0 60 ; 0 60 ; #")
        return desk

    def test_first_paces(self):
        self.assertEqual(self.paces_of(self.wide(), "a"), (1, 1, 1, 1))

    def test_given_paces(self):
        desk = self.wide()
        desk.say("paces a 2 3 4 5")
        self.assertEqual(self.paces_of(desk, "a"), (2, 3, 4, 5))
        desk.say("paces a 9 1 1 9")
        self.assertEqual(self.paces_of(desk, "a"), (9, 1, 1, 9))

    def test_a_new_one_has_those_of_name(self):
        for row in ("cut b a 0", "back b a 0", "move b a 0 0", "both b a o", "either b a o", "less b a n"):
            desk = self.wide()
            desk.say("yard o 0 60 ; 0 60 ; #")
            desk.say("yard n void")
            desk.say("paces o 7 7 7 7")
            desk.say("paces n 8 8 8 8")
            desk.say("paces a 2 3 4 5")
            desk.say(row)
            self.assertEqual(self.paces_of(desk, "b"), (2, 3, 4, 5))
            self.assertEqual(self.paces_of(desk, "a"), (2, 3, 4, 5))
            self.assertEqual(self.paces_of(desk, "o"), (7, 7, 7, 7))

    def test_turned_and_mirrored_with_it(self):
        desk = self.wide()
        desk.say("paces a 2 3 4 5")
        desk.say("turn b a")
        desk.say("move b b 60 0")
        self.assertEqual(self.paces_of(desk, "b"), turned_paces((2, 3, 4, 5)))
        desk.say("mirror c a")
        desk.say("move c c 60 0")
        self.assertEqual(self.paces_of(desk, "c"), mirrored_paces((2, 3, 4, 5)))
        self.assertEqual(self.paces_of(desk, "a"), (2, 3, 4, 5))

    def test_later_paces_change_no_other(self):
        desk = self.wide()
        desk.say("cut b a 0")
        desk.say("paces a 2 3 4 5")
        self.assertEqual(self.paces_of(desk, "b"), (1, 1, 1, 1))
        desk.say("paces b 9 9 9 9")
        self.assertEqual(self.paces_of(desk, "a"), (2, 3, 4, 5))

    def test_new_that_is_name_or_other(self):
        desk = self.wide()
        desk.say("yard o 0 60 ; 0 60 ; #")
        desk.say("paces a 2 3 4 5")
        desk.say("paces o 7 7 7 7")
        desk.say("both o a o")
        self.assertEqual(self.paces_of(desk, "o"), (2, 3, 4, 5))
        desk.say("mirror a a")
        desk.say("move a a 60 0")
        self.assertEqual(self.paces_of(desk, "a"), (4, 3, 2, 5))
        desk.say("less a a a")
        self.assertEqual(desk.say("show a"), "void")
        desk.say("either a a o")
        self.assertEqual(self.paces_of(desk, "a"), (4, 3, 2, 5))
        desk.say("yard o 0 1 ; 0 1 ; #")
        desk.say("less o a o")
        self.assertEqual(desk.say("show o"), "0 1 60 ; 0 1 60 ; .# ##")


WORDS = {
    "yard": None, "paces": 6, "drop": 2, "cut": 4, "back": 4, "move": 5, "turn": 3, "mirror": 3, "both": 4, "either": 4, "less": 4,
    "show": 2, "size": 2, "volume": 2, "height": 4, "touched": 4, "levels": 2, "top": 2, "rain": 4, "alike": 3,
}


class RefusalTest(unittest.TestCase):
    def setUp(self):
        self.desk = laid_out()
        self.desk.say("paces ell 1 2 3 4")

    def state(self):
        found = []
        for name in ("hall", "ell", "rooms", "none", "a", "b", "new"):
            for row in ("show", "volume"):
                try:
                    found.append(self.desk.say(row + " " + name))
                except NoName:
                    found.append(None)
        return found

    def refused(self, refusal, *rows):
        before = self.state()
        for row in rows:
            with self.subTest(row=row):
                for kind in (refusal, RoofError):
                    with self.assertRaises(kind):
                        self.desk.say(row)
                self.assertEqual(self.state(), before)

    def test_no_row_by_its_first_word(self):
        self.refused(NoRow, "", " ", "  ", "hall", "Show hall", "SHOW hall", " show hall", "shows hall", "sho hall", "ok", "x y z",
                     "strips hall", "~", "yards a void", "ridges hall", "area hall", "show,hall", "showhall", "# #", "1", "none",
                     "NEW NAME", "quit", "stretch a hall 1 1")

    def test_no_row_by_its_count_of_words(self):
        for first, count in WORDS.items():
            for other in range(1, 9):
                row = " ".join([first] + ["hall"] * (other - 1))
                if count is not None and other != count or count is None and other < 3:
                    self.refused(NoRow, row)
        self.refused(NoRow, "show hall ", "show  hall", "show hall hall", "size hall ", "cut a hall 1 ", "cut  a hall 1", "cut a hall  1",
                     "drop hall ", "top  hall", "alike hall ell ", "alike hall", "yard", "yard a", "paces ell 1 1 1", "paces ell 1 1 1 1 ",
                     "move a hall 1", "turn a", "turn a hall ", "rain hall 1 1 1", "both a hall", "show", "show " * 3)

    def test_word_without_signs(self):
        self.refused(NoName, "show ", "drop ", "turn  hall", "turn a ", "alike hall ", "alike  hall", "yard  0 1 ; 0 1 ; #", "yard  ",
                     "both a hall ", "both a  ell", "both  hall ell", "cut  hall 1", "cut a  1", "height  1 1", "levels ", "mirror  ")
        self.refused(NoText, "yard a ", "yard a  ", "yard a  0 1 ; 0 1 ; #", "yard a 0 1 ; 0 1 ; # ", "yard a 0  1 ; 0 1 ; #",
                     "yard a void ", "yard a  void", "cut a hall ", "height hall  1", "height hall 1 ", "paces hall 1 1 1 ",
                     "paces hall  1 1 1", "move a hall  1", "move a hall 1 ", "rain hall  ", "touched hall  1")

    def test_no_name(self):
        bad = ["A", "a1", "1", "abcdefghi", "a_b", "a-b", "#", "Hall", "hallO", "a.b", "~", "/", "0", "-", ";", "hall;", "abcdefgh1"]
        for name in bad:
            self.refused(NoName, "yard " + name + " void", "cut " + name + " hall 1", "back " + name + " hall 1",
                         "move " + name + " hall 1 1", "turn " + name + " hall", "mirror " + name + " hall",
                         "both " + name + " hall ell", "either " + name + " hall ell", "less " + name + " hall ell")
        for name in bad + ["nobody", "abcdefgh", "new", "a", "halls", "hal", "el"]:
            self.refused(NoName, "show " + name, "size " + name, "volume " + name, "levels " + name, "top " + name, "drop " + name,
                         "paces " + name + " 1 1 1 1", "height " + name + " 1 1", "touched " + name + " 1 1", "rain " + name + " 1 1",
                         "alike " + name + " hall", "alike hall " + name, "cut a " + name + " 1", "back a " + name + " 1",
                         "move a " + name + " 1 1", "turn a " + name, "mirror a " + name, "both a " + name + " hall",
                         "both a hall " + name, "either a " + name + " hall", "either a hall " + name, "less a hall " + name)

    def test_names_of_one_to_eight_small_letters(self):
        for name in ("a", "z", "abcdefgh", "qrstuvwx", "yard", "void", "none", "show", "new"):
            self.assertEqual(self.desk.say("yard " + name + " " + ELL), "ok")
            self.assertEqual(self.desk.say("show " + name), ELL)

    def test_no_pace(self):
        for pace in ("0", "10", "-1", "1/2", "a", "+1", "01", "1.", "#", "12", "99", "one"):
            self.refused(NoText, "paces hall " + pace + " 1 1 1", "paces hall 1 " + pace + " 1 1", "paces hall 1 1 " + pace + " 1",
                         "paces hall 1 1 1 " + pace)

    def test_no_number(self):
        for number in ("-0", "01", "2/4", "1/1", "1/0", "1/-2", "a", "1.5", "+1", "1" * 61, "/2", "1/", "--1", "void", "#"):
            self.refused(NoText, "cut a hall " + number, "back a hall " + number, "move a hall " + number + " 1", "move a hall 1 " + number,
                         "height hall " + number + " 1", "height hall 1 " + number, "touched hall " + number + " 1",
                         "touched hall 1 " + number, "rain hall " + number + " 1", "rain hall 1 " + number)

    def test_height_below_nought(self):
        for number in ("-1", "-1/2", "-" + "9" * 60):
            self.refused(NoText, "cut a hall " + number, "back a hall " + number, "cut hall hall " + number)
            self.assertEqual(self.desk.say("move m hall " + number + " 0"), "ok")
            self.assertEqual(self.desk.say("height hall " + number + " 0"), "0")

    def test_no_yard_s_text(self):
        self.refused(NoText, "yard a 0 1", "yard a #", "yard a 0 1 ; 0 1 ; .", "yard a 1 0 ; 0 1 ; #", "yard a void void", "yard a VOID",
                     "yard hall 0 1 ; 0 1 ; ##", "yard a none", "yard a hall", "yard a ; ;", "yard a 0 2/2 ; 0 1 ; #", "yard a hall ell",
                     "yard a " + " ".join(str(line) for line in range(14)) + " ; 0 1 ; #.#.#.#.#.#.#")

    def test_from_the_left(self):
        self.refused(NoName, "cut A nobody x", "cut a nobody x", "cut a nobody -1", "yard A 0 1", "paces nobody 0 0 0 0",
                     "move a nobody x y", "height nobody x y", "rain nobody x y", "alike nobody nobody",
                     "both a hall nobody", "cut A hall x")
        self.refused(NoText, "cut a hall x", "rain hall x 100", "rain hall 100 x", "paces hall 1 1 1 x", "move a hall x y")
        self.refused(NoPoint, "rain hall 100 100", "rain none 0 0", "rain hall -1/2 3")

    def test_row_before_name_and_text(self):
        self.refused(NoRow, "cut A nobody", "cut A nobody x x", "rain nobody x", "shows nobody", "yard A", "paces nobody 0 0 0")

    def test_order_of_name_and_text_in_one_row(self):
        # In no row does a NAME stand behind a TEXT, so whatever is refused with NoName comes ahead.
        self.refused(NoName, "cut a1 hall -1", "move a nobody 1/0 1/0", "less a nobody nobody", "less A1 hall hall")

    def test_refused_new_stays_what_it_was(self):
        self.refused(NoText, "cut hall hall x", "yard hall 0 1 ; 0 1 ; ..", "move ell ell 1 x")
        self.refused(NoName, "both hall hall nobody", "cut hall nobody 1", "turn ell nobody")
        self.assertEqual(self.desk.say("show hall"), HALL)


class ApartTest(unittest.TestCase):
    def test_two_desks(self):
        one, other = Desk(), Desk()
        one.say("yard a " + HALL)
        with self.assertRaises(NoName):
            other.say("show a")
        other.say("yard a " + ELL)
        other.say("paces a 9 9 9 9")
        self.assertEqual(one.say("show a"), HALL)
        self.assertEqual(one.say("volume a"), "72")
        other.say("drop a")
        self.assertEqual(one.say("show a"), HALL)
        with self.assertRaises(NoName):
            Desk().say("show a")

    def test_lines_of_sixty_figures_and_more(self):
        desk = Desk()
        big = str(BIG)
        self.assertEqual(desk.say("yard a -" + big + " 1/" + big + " ; 0 " + big + " ; #"), "ok")
        self.assertEqual(desk.say("move a a " + big + " 0"), "ok")
        self.assertEqual(desk.say("show a"), shown_yard(drawn([0, Fraction(1, BIG) + BIG], [0, BIG], ["#"])))
        self.assertEqual(desk.say("size a"), shown_number(size(drawn([0, Fraction(1, BIG) + BIG], [0, BIG], ["#"]))))

    def test_void(self):
        desk = Desk()
        self.assertEqual(desk.say("yard v void"), "ok")
        self.assertEqual(read_yard(desk.say("show v")), VOID)


if __name__ == "__main__":
    unittest.main()
