"""Section 11: letters, by when they are due, and what is heard."""

import itertools

from nevertakenback.errors import BadLags, BadLetter, Clash, NoPlayer
from nevertakenback.letters import Ear, due_by, letters_of
from tests.samples import LINE, PLAY, Case, changed, court_of, play_of, wrong_rows, wrong_values
from tests.test_fields import whole

# The court and the play of the example in section 11.
PAIR = [
    "court", "stretch 1/2 3/2", "place a", "place b", "way a b 4", "player ann a", "player bob b", "delay bob ann 3", "ball x a",
]
RALLY = ["play", "strike 2 x b 5", "strike 9 x a 4", "strike 20 x b 4"]
LAGS = ((1, 1), (1, 2))

# A room of several places, from which ways of unlike lengths lead to m, and a place m that is in no room.
WIDE = [
    "court", "stretch 1/2 2", "place a", "place b", "place m", "place c", "way a m 5", "way b m 2", "way m c 3", "way a b 9",
    "player p a b", "player q c", "delay p q 4", "delay q p 6", "ball x a", "ball y c", "ball z b",
]


def letter_of(player, number, tick, ball="x", course=(("b", 4),)):
    return ("strike", player, number, (tick, ball, course))


class LettersOf(Case):
    def test_numbers_of_each_player(self):
        told = letters_of(play_of(RALLY, PAIR))
        rows = (
            letter_of("ann", 0, 2, "x", (("b", 5),)), letter_of("bob", 0, 9, "x", (("a", 4),)), letter_of("ann", 1, 20),
        )
        self.same(told, rows)

    def test_by_who_strikes_not_by_whose_ball(self):
        play = play_of(PLAY, LINE)
        self.same([letter[1:3] for letter in letters_of(play)], [("p", 0), ("q", 0), ("q", 1)])
        play = play_of(["play", "strike 0 y m 3 b 2", "strike 5 y m 2 c 3", "strike 6 x m 5 a 5", "strike 10 y m 3 b 2"], WIDE)
        self.same([letter[1:3] for letter in letters_of(play)], [("q", 0), ("p", 0), ("p", 1), ("q", 1)])
        self.same([letter[3] for letter in letters_of(play)], list(play.strikes))

    def test_of_no_strike(self):
        self.same(letters_of(play_of(["play"], WIDE)), ())

    def test_of_as_many_strikes_as_may_be(self):
        lines = ["play"] + [f"strike {4 * at} z m 2 b 2" for at in range(40)]
        self.same([letter[1:3] for letter in letters_of(play_of(lines, WIDE))], [("p", number) for number in range(40)])


class DueBy(Case):
    def test_tick_lag_and_delay_together(self):
        court = court_of(PAIR)
        told = letters_of(play_of(RALLY, PAIR))
        self.same([due_by(court, LAGS, "bob", letter) for letter in told], [(6, 1), (19, 2), (24, 1)])
        self.same([due_by(court, LAGS, "ann", letter) for letter in told], [(3, 1), (19, 2), (21, 1)])
        court = court_of(WIDE)
        self.same(due_by(court, whole(7, 9), "p", letter_of("q", 3, 10, "y", (("m", 3), ("c", 3)))), (23, 1))
        self.same(due_by(court, whole(7, 9), "q", letter_of("p", 3, 10, "y", (("m", 2), ("c", 3)))), (23, 1))

    def test_lags_that_are_not_right(self):
        self.same(due_by(court_of(PAIR), ((0, 1), (22, 7)), "ann", letter_of("bob", 5, 0, "x", (("a", 4),))), (22, 7))

    def test_in_the_greatest_tick(self):
        self.same(due_by(court_of(PAIR), ((1, 3), (0, 1)), "bob", letter_of("ann", 0, 99999)), (300007, 3))

    def test_wrong_arguments(self):
        court = court_of(PAIR)
        right = letter_of("ann", 0, 2)
        for value in wrong_rows(LAGS):
            self.refuses(BadLags, value, due_by, court, value, "bob", right)
        for value in wrong_values() + ["a", "x", "cid"]:
            self.refuses(NoPlayer, value, due_by, court, LAGS, value, right)
        for value in wrong_values():
            self.refuses(BadLetter, value, due_by, court, LAGS, "bob", value)
        due = ((1, BadLags, LAGS[:1]), (2, NoPlayer, True), (3, BadLetter, letter_of("ann", -1, 2)))
        self.in_sequence(due_by, (court, LAGS, "bob", right), *due)


class Forms(Case):
    def wrong(self, court, value):
        ear = Ear(court, "p")
        self.refuses(BadLetter, value, ear.hear, value)
        self.refuses(BadLetter, value, due_by, court, whole(0, 0), "p", value)
        self.same([ear.known(), ear.heard("p"), ear.heard("q")], [(), 0, 0])

    def right(self, court, value):
        ear = Ear(court, "p")
        self.assertIs(ear.hear(value), None)
        due_by(court, whole(0, 0), "p", value)

    def test_each_part(self):
        court = court_of(WIDE)
        course = (("m", 2), ("c", 3))
        strike = (3, "x", course)
        right = ("strike", "p", 0, strike)
        self.right(court, right)
        wrong = [
            right[:3], right + (0,), list(right), right[1:], ("Strike",) + right[1:], (None,) + right[1:], (right,), strike,
            ("strike", "p", 0, list(strike)), ("strike", "p", 0, strike[:2]), ("strike", "p", 0, strike + (0,)),
            ("strike", "q", 0, strike), ("strike", "x", 0, strike), ("strike", "a", 0, strike), ("strike", ["p"], 0, strike),
        ]
        for value in wrong_values():
            wrong += [value, (value,) + right[1:], ("strike", value) + right[2:], ("strike", "p", 0, value)]
            wrong += [("strike", "p", 0, (value,) + strike[1:]), ("strike", "p", 0, (3, value, course))]
            wrong += [("strike", "p", 0, (3, "x", value)), ("strike", "p", 0, (3, "x", (value,)))]
            wrong += [("strike", "p", 0, (3, "x", (("m", value), course[1]))), ("strike", "p", 0, (3, "x", course + (value,)))]
            if value not in (100000, 10 ** 11) or isinstance(value, bool):
                wrong.append(("strike", "p", value, strike))
        for value in wrong:
            self.wrong(court, value)

    def test_numbers(self):
        court = court_of(WIDE)
        for number in (0, 1, 39, 40, 1000, 10 ** 11):
            self.right(court, ("strike", "p", number, (3, "x", (("m", 2), ("c", 3)))))
        for number in (-1, True, False, "0", (0,), None):
            self.wrong(court, ("strike", "p", number, (3, "x", (("m", 2), ("c", 3)))))

    def test_ticks_and_balls(self):
        court = court_of(WIDE)
        for tick in (0, 1, 99999):
            for ball in ("x", "y", "z"):
                self.right(court, ("strike", "p", 0, (tick, ball, (("m", 2), ("c", 3)))))
        for tick, ball in ((-1, "x"), (100000, "x"), (True, "x"), ("3", "x"), (3, "p"), (3, "a"), (3, "v"), (3, None)):
            self.wrong(court, ("strike", "p", 0, (tick, ball, (("m", 2), ("c", 3)))))

    def test_courses_from_some_place_of_the_room(self):
        court = court_of(WIDE)
        right = [
            (("m", 2), ("c", 3)), (("m", 5), ("a", 5)), (("m", 999), ("b", 999)), (("b", 9),), (("a", 9),), (("b", 9), ("a", 9)),
            (("m", 2), ("b", 2)) * 12, (("m", 3), ("c", 3), ("m", 3), ("c", 4)),
        ]
        wrong = [
            (), (("m", 1), ("c", 3)), (("m", 2), ("c", 2)), (("m", 2),), (("c", 9),), (("m", 2), ("a", 4)), (("b", 8),), (("d", 9),),
            (("m", 1000), ("c", 3)), (("m", 2), ("b", 2)) * 13, (("m", 2), ("m", 2), ("c", 3)), [("m", 2), ("c", 3)],
            (["m", 2], ("c", 3)), (("m", 2), ("c", True)), (("m", 2, 0), ("c", 3)), ("m", 2, "c", 3), (("p", 9),), (("m", 2), ("c", 3), ()),
        ]
        for course in right:
            self.right(court, ("strike", "p", 0, (3, "y", course)))
        for course in wrong:
            self.wrong(court, ("strike", "p", 0, (3, "y", course)))
        self.right(court, ("strike", "q", 0, (3, "y", (("m", 3), ("a", 5)))))
        for course in ((("m", 2), ("a", 5)), (("a", 9),), (("b", 9),), (("c", 3),)):
            self.wrong(court, ("strike", "q", 0, (3, "y", course)))

    def test_each_letter_of_a_play_is_one_by_its_form(self):
        for lines, court_lines in ((PLAY, LINE), (["play", "strike 0 y m 3 b 2", "strike 5 y m 2 c 3"], WIDE)):
            for letter in letters_of(play_of(lines, court_lines)):
                self.right(court_of(court_lines), letter)


class Ears(Case):
    def test_letters_out_of_sequence_twice_and_with_gaps(self):
        court = court_of(PAIR)
        letters = [letter_of("ann", number, 10 * number) for number in range(5)]
        ear = Ear(court, "bob")
        for at, count in ((3, 0), (1, 0), (1, 0), (0, 2), (4, 2), (3, 2), (0, 2), (2, 5), (2, 5)):
            self.assertIs(ear.hear(letters[at]), None)
            self.same(ear.heard("ann"), count)
            self.same(ear.known(), tuple(letter[3] for letter in letters[:count]))
            self.same(ear.heard("bob"), 0)

    def test_of_all_players_ascending(self):
        letters = letters_of(play_of(RALLY, PAIR))
        for row in itertools.permutations(letters):
            ear = Ear(court_of(PAIR), "ann")
            for letter in row:
                ear.hear(letter)
            self.same(ear.known(), play_of(RALLY, PAIR).strikes)
            self.same([ear.heard("ann"), ear.heard("bob")], [2, 1])

    def test_what_lacks_of_one_player_hides_nothing_of_another(self):
        letters = letters_of(play_of(RALLY, PAIR))
        ear = Ear(court_of(PAIR), "bob")
        ear.hear(letters[2])
        ear.hear(letters[1])
        self.same([ear.known(), ear.heard("ann"), ear.heard("bob")], [(letters[1][3],), 0, 1])

    def test_by_tick_then_by_ball(self):
        ear = Ear(court_of(WIDE), "p")
        course, back = (("m", 5), ("c", 3)), (("m", 3), ("a", 5))
        for letter in (
            ("strike", "q", 0, (7, "y", back)), ("strike", "p", 0, (7, "x", course)), ("strike", "p", 1, (7, "z", course)),
            ("strike", "q", 1, (10, "x", back)), ("strike", "p", 2, (9, "z", course)),
        ):
            ear.hear(letter)
        rows = ((7, "x", course), (7, "y", back), (7, "z", course), (9, "z", course), (10, "x", back))
        self.same(ear.known(), rows)

    def test_the_same_number_and_another_strike(self):
        held = letter_of("ann", 1, 10)
        for strike in ((11, "x", (("b", 4),)), (9, "x", (("b", 4),)), (10, "x", (("b", 5),))):
            ear = Ear(court_of(PAIR), "bob")
            ear.hear(held)
            clash = ("strike", "ann", 1, strike)
            self.refuses(Clash, clash, ear.hear, clash)
            self.assertIs(ear.hear(held), None)

    def test_a_less_number_and_no_less_tick_and_ball(self):
        course = (("m", 5), ("c", 3))
        for tick, ball, clashes in (
            (10, "y", True), (10, "z", True), (11, "x", True), (11, "z", True), (10, "x", False), (9, "z", False), (9, "y", False),
        ):
            ear = Ear(court_of(WIDE), "q")
            ear.hear(("strike", "p", 4, (10, "y", course)))
            for number in (0, 3):
                letter = ("strike", "p", number, (tick, ball, course))
                if clashes:
                    self.refuses(Clash, letter, ear.hear, letter)
                elif number == 3:
                    self.assertIs(ear.hear(letter), None)

    def test_a_greater_number_and_no_greater_tick_and_ball(self):
        course = (("m", 5), ("c", 3))
        for tick, ball, clashes in (
            (10, "y", True), (10, "x", True), (9, "y", True), (9, "z", True), (10, "z", False), (11, "x", False), (11, "y", False),
        ):
            ear = Ear(court_of(WIDE), "q")
            ear.hear(("strike", "p", 4, (10, "y", course)))
            for number in (9, 5):
                letter = ("strike", "p", number, (tick, ball, course))
                if clashes:
                    self.refuses(Clash, letter, ear.hear, letter)
                elif number == 5:
                    self.assertIs(ear.hear(letter), None)

    def test_beside_all_that_are_held_not_only_the_next_ones(self):
        ear = Ear(court_of(PAIR), "bob")
        for number, tick in ((0, 5), (2, 20), (8, 60)):
            ear.hear(letter_of("ann", number, tick))
        for number, tick in ((1, 5), (1, 20), (1, 4), (1, 70), (3, 20), (3, 10), (3, 60), (9, 60), (9, 2), (0, 4), (8, 61), (7, 99)):
            letter = letter_of("ann", number, tick)
            self.refuses(Clash, letter, ear.hear, letter)
        self.same([ear.heard("ann"), len(ear.known())], [1, 1])
        for number, tick in ((1, 6), (3, 21), (9, 61), (7, 59)):
            ear.hear(letter_of("ann", number, tick))
        self.same([ear.heard("ann"), len(ear.known())], [4, 4])

    def test_letters_of_unlike_players_do_not_clash(self):
        ear = Ear(court_of(PAIR), "bob")
        ear.hear(letter_of("ann", 0, 10))
        ear.hear(("strike", "bob", 0, (3, "x", (("a", 4),))))
        ear.hear(("strike", "bob", 1, (11, "x", (("a", 4),))))
        self.same([ear.heard("ann"), ear.heard("bob")], [1, 2])

    def test_what_is_refused_changes_nothing(self):
        ear = Ear(court_of(PAIR), "bob")
        ear.hear(letter_of("ann", 0, 10))
        for error, letter in ((Clash, letter_of("ann", 1, 10)), (Clash, letter_of("ann", 0, 11)), (BadLetter, letter_of("ann", 1, -1))):
            self.refuses(error, letter, ear.hear, letter)
            self.same([ear.heard("ann"), ear.known()], [1, ((10, "x", (("b", 4),)),)])
        ear.hear(letter_of("ann", 1, 11))
        self.same(ear.heard("ann"), 2)

    def test_a_letter_of_no_form_is_refused_ahead_of_a_clash(self):
        ear = Ear(court_of(PAIR), "bob")
        ear.hear(letter_of("ann", 0, 10))
        letter = ("strike", "ann", 0, (9, "x", (("b", 3),)))
        self.refuses(BadLetter, letter, ear.hear, letter)

    def test_ears_share_nothing(self):
        court = court_of(PAIR)
        one, other = Ear(court, "bob"), Ear(court, "bob")
        one.hear(letter_of("ann", 0, 10))
        self.same([one.heard("ann"), other.heard("ann"), other.known()], [1, 0, ()])
        self.assertEqual(court, court_of(PAIR))

    def test_what_was_told_stays(self):
        ear = Ear(court_of(PAIR), "bob")
        told = ear.known()
        ear.hear(letter_of("ann", 0, 10))
        self.same([told, len(ear.known())], [(), 1])
        self.same(ear.known(), ear.known())

    def test_who_is_no_player(self):
        court = court_of(changed(PAIR, "ball x a", "ball x a", "ball y a"))
        ear = Ear(court, "ann")
        for value in wrong_values() + ["a", "x", "cid", ("ann",)]:
            self.refuses(NoPlayer, value, Ear, court, value)
            self.refuses(NoPlayer, value, ear.heard, value)
