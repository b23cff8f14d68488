"""What holds over the whole program, whatever the road."""

import random
import unittest
from fractions import Fraction

from askround.asking.askers import Asker
from askround.asking.classes import width_of
from askround.asking.comes import come_to, shows_come
from askround.asking.hangs import hangs_on
from askround.asking.made import made, run
from askround.asking.pairs import shows_two, two_forms
from askround.asking.plain import read
from askround.asking.states import is_shut
from askround.book.changes import carried
from askround.book.entries import answers_by, joined, lets_by, read_by
from askround.book.sittings import Sitting
from askround.desk.desk import Desk
from askround.desk.texts import book_text, read_book
from askround.errors import CannotGo, NoFit
from askround.forms.texts import form_text, read_form
from askround.forms.trees import keys_of
from askround.tables.hidden import bounds_at, given_away, shows_bounds
from askround.tables.records import are_lines, are_records
from askround.tables.sums import added, cross
from askround.tables.weights import shows_weights, weights_for
from tests import made_rows
from tests.chance import random_book, random_form, random_value
from tests.rewrites import other_form
from tests.support import alike
from tests.test_classes import WIDE, wide_form
from tests.test_desk import value_text
from tests.test_records import rounds_in
from tests.test_states import small_form
from tests.test_sums import pair_of
from tests.trees import condition, form


def row_of(entry):
    """What is said at a desk to take an entry."""
    moment, hand, deed = entry
    name, person = deed[1]
    return f"{deed[0]} {moment} {hand} {name} {person}" + (f" {value_text(deed[2])}" if deed[0] == "tell" else "")


def unfolded(text):
    return text.replace(" / ", "\n")


def folded(text):
    return text.replace("\n", " / ")


def then_text(then):
    return then[0] if len(then) == 1 else f"{then[0]} {then[1][0]} {then[1][1]}"


class TestRoads(unittest.TestCase):
    def test_answered_on_by_every_road(self):
        chance = random.Random(121)
        ends = {"end": 0, "hard": 0}
        while min(ends.values()) < 30:
            steps = random_form(chance, chance.randrange(4, 20))
            rows, kinds = made(steps), dict(made_rows.keys_asked(steps))
            asker, sitting, desk = Asker(steps), Sitting(steps), Desk()
            desk.say("form " + folded(form_text(steps)))
            answers, lets, moment = {}, (), 0
            self.assert_agree(steps, rows, answers, lets, asker, sitting, desk)
            while asker.now()[0] in ("ask", "soft"):
                word, what = asker.now()
                if word == "ask":
                    answers[what] = random_value(chance, kinds[what])
                    asker.tell(answers[what])
                    entry = (moment, "a", ("tell", what, answers[what]))
                    sitting.tell(*entry[:2], *entry[2][1:])
                else:
                    lets = (*lets, what)
                    asker.let()
                    entry = (moment, "a", ("let", what))
                    sitting.let(*entry[:2], what)
                self.assertEqual(desk.say(row_of(entry)), "ok")
                moment += 1
                self.assert_agree(steps, rows, answers, lets, asker, sitting, desk)
            ends[asker.now()[0]] += 1
            for _ in range(moment):
                asker.back()
                sitting.back()
                desk.say("back")
                self.assertEqual((asker.now(), then_text(asker.now())), (sitting.now(), desk.say("now")))
            self.assertEqual((asker, sitting), (Asker(steps), Sitting(steps)))

    def assert_agree(self, steps, rows, answers, lets, asker, sitting, desk):
        told = read(steps, answers, lets)
        self.assertTrue(alike(run(rows, answers, lets), told))
        self.assertTrue(alike(read_by(sitting.form(), sitting.book()), told))
        self.assertTrue(alike((tuple(key for key, _ in asker.taken()), asker.lets(), asker.now()), told))
        self.assertEqual(sitting.now(), told[2])
        self.assertEqual((dict(asker.taken()), sitting.answers()), (answers, answers))
        self.assertEqual(desk.say("now"), then_text(told[2]))
        self.assertEqual(desk.say("taken"), ", ".join(f"{name} {person} {value_text(answers[(name, person)])}" for name, person in told[0]) or "-")
        self.assertEqual(read_book(unfolded(desk.say("book"))), sitting.book())

    def test_what_is_told_hangs_on_the_set_of_entries_alone(self):
        chance = random.Random(122)
        for _ in range(60):
            steps = random_form(chance, chance.randrange(4, 20))
            keys = made_rows.keys_asked(steps)
            softs = [check for word, check, _ in made_rows.checks_run(steps) if word == "soft"]
            entries = tuple(self.fitting(chance, steps, keys, softs) if keys else ())
            wanted = (answers_by(steps, entries), lets_by(steps, entries), read_by(steps, entries), book_text(entries))
            sittings = []
            for _ in range(3):
                order = tuple(chance.sample(entries, len(entries)))
                self.assertTrue(alike((answers_by(steps, order), lets_by(steps, order), read_by(steps, order), book_text(order)), wanted))
                at = chance.randrange(len(order) + 1)
                sittings += [self.one_by_one(steps, order), self.by_joins(steps, order[:at], order[at:]), self.by_joins(steps, order[at:], order[chance.randrange(at + 1):])]
                desk = Desk()
                for row in ("form " + folded(form_text(steps)), *[row_of(entry) for entry in order]):
                    desk.say(row)
                self.assertEqual((desk.say("book"), desk.say("now")), (folded(wanted[3]), then_text(wanted[2][2])))
            for sitting in sittings[:1] + sittings[1::3] + sittings[3:4]:
                self.assertEqual(sitting, sittings[0])
                self.assertTrue(alike((sitting.answers(), sitting.now(), sitting.book()), (wanted[0], wanted[2][2], joined(entries, ()))))
            for sitting in sittings[2::3]:
                self.assertLessEqual(set(sitting.book()), set(entries))

    def fitting(self, chance, steps, keys, softs):
        """Entries by chance that a sitting of the form takes."""
        kinds = dict(keys)
        found = []
        for moment, hand, deed in random_book(chance, keys, softs or [(0, 0)], chance.randrange(0, 40)):
            if deed[0] == "let" and deed[1] in softs or deed[0] == "strike" and deed[1] in kinds or deed[0] == "tell" and deed[1] in kinds and made_rows.is_of(kinds[deed[1]], deed[2]):
                found.append((moment, hand, deed))
        return found

    def one_by_one(self, steps, entries):
        sitting = Sitting(steps)
        for moment, hand, deed in entries:
            getattr(sitting, deed[0])(moment, hand, *deed[1:])
        return sitting

    def by_joins(self, steps, one, other):
        sitting = Sitting(steps)
        sitting.join(one)
        sitting.join(other)
        sitting.join(one)
        return sitting

    def test_records_and_tables_by_every_road(self):
        chance = random.Random(123)
        seen = {"told": 0, "no fit": 0}
        while seen["told"] < 60 or seen["no fit"] < 4:
            steps = random_form(chance, chance.randrange(3, 8))
            desk, found = Desk(), []
            desk.say("form " + folded(form_text(steps)))
            for _ in range(6):
                record = self.to_an_end(chance, desk, dict(made_rows.keys_asked(steps)))
                if record is not None:
                    found.append(record)
                    self.assertEqual(desk.say("keep"), str(len(found)))
                else:
                    while desk.say("book"):
                        desk.say("back")
            found = tuple(found)
            self.assertTrue(are_records(steps, found))
            names = [(key[0], kind) for key, kind in made_rows.keys_asked(steps) if key[1] == 0]
            if not names or not found:
                continue
            sides = [self.lines_about(*chance.choice(names)) for _ in range(2)]
            rows, columns = [tuple(condition(line) for line in side) for side in sides]
            self.assertTrue(are_lines(steps, rows) and are_lines(steps, columns))
            spoken = "cross " + " ; ".join(" / ".join(side) for side in sides)
            try:
                told = cross(steps, found, rows, columns)
            except NoFit:
                self.assertRaises(NoFit, desk.say, spoken)
                seen["no fit"] += 1
                continue
            seen["told"] += 1
            self.assertEqual(desk.say(spoken), " / ".join(" ".join(str(p) for p, _ in row) for row in told[0]))
            whole = cross(steps, (), rows, columns)
            for record in found:
                whole = added(whole, cross(steps, (record,), rows, columns))
            self.assertTrue(alike(whole, told))
            self.assertEqual(told[3], (len(found), 1))
            self.assert_weights(chance, steps, found, rows, columns)

    def to_an_end(self, chance, desk, kinds):
        """Answer on at a desk, letting softs; the answers taken, None where a hard stops it."""
        answers = {}
        for moment in range(60):
            word, *rest = desk.say("now").split(" ")
            if word in ("end", "hard"):
                return answers if word == "end" else None
            key = (rest[0], int(rest[1])) if word == "ask" else None
            if key:
                answers[key] = random_value(chance, kinds[key])
            desk.say(f"tell {moment} a {rest[0]} {rest[1]} {value_text(answers[key])}" if key else f"let {moment} a {rest[0]} {rest[1]}")
        return None

    def lines_about(self, name, kind):
        """Lines that just one each holds where the name is answered."""
        if kind[0] == "pick":
            return [f"{name} is {option}" for option in kind[1]]
        piece = f"{name} from {kind[2]}" if kind[0] == "count" else f"{name} has {kind[1][0]}"
        return [piece, "not " + piece]

    def assert_weights(self, chance, steps, found, rows, columns):
        """Weights by margins are such that the table crossed by them has these as its sums."""
        cells = [self.cell_of(steps, record, rows, columns) for record in found]
        fits = tuple(tuple(row == at for at in range(len(rows))) + tuple(column == at for at in range(len(columns))) for row, column in cells)
        totals = tuple(pair_of(chance.randrange(0, 3)) for _ in range(len(rows) + len(columns)))
        told = weights_for(fits, totals)
        self.assertTrue(shows_weights(fits, totals, told))
        if told[0] == "weights":
            crossed = cross(steps, found, rows, columns, told[1])
            self.assertEqual(crossed[1] + crossed[2], totals)

    def cell_of(self, steps, record, rows, columns):
        """The row and the column that a record fits."""
        cells = cross(steps, (record,), rows, columns)[0]
        return [(at, column) for at, row in enumerate(cells) for column, cell in enumerate(row) if cell == (1, 1)][0]

    def test_each_key_is_come_to_or_never_asked_by_every_road(self):
        chance = random.Random(124)
        seen = {"answers": 0, "never": 0}
        while min(seen.values()) < 30:
            steps = small_form(chance, 12)
            desk, reached = Desk(), set()
            desk.say("form " + folded(form_text(steps)))
            for _ in range(20):
                taken = dict(self.any_answers(chance, steps))
                reached.update(read(steps, taken, None, True)[0])
            for key in keys_of(steps):
                told = come_to(steps, key)
                self.assertTrue(shows_come(steps, key, told))
                self.assertEqual(desk.say(f"come {key[0]} {key[1]}"), "never" if told[0] == "never" else str(len(told[1])))
                seen[told[0]] += 1
                if told[0] == "never":
                    self.assertNotIn(key, reached)
                    self.assertTrue(is_shut(steps, key, told[1]))
                    continue
                asker = Asker(steps)
                for one, value in told[1]:
                    self.go_to_ask(asker)
                    self.assertEqual(asker.now(), ("ask", one))
                    asker.tell(value)
                self.go_to_ask(asker)
                self.assertEqual(asker.now(), ("ask", key))

    def go_to_ask(self, asker):
        while asker.now()[0] == "soft":
            asker.let()

    def any_answers(self, chance, steps):
        return [(key, random_value(chance, kind)) for key, kind in made_rows.keys_asked(steps)]

    def test_a_changed_form_takes_over_or_names_the_answer(self):
        chance = random.Random(125)
        seen = {"alike": 0, "parted": 0, "stuck": 0}
        while min(seen.values()) < 12:
            steps = small_form(chance, 12)
            other, _ = other_form(chance, steps)
            if not keys_of(other) or width_of(other) > 200:
                continue
            told = two_forms(steps, other)
            self.assertTrue(shows_two(steps, other, told))
            sitting = Sitting(steps)
            for moment, (key, value) in enumerate(self.any_answers(chance, steps)):
                sitting.tell(moment, "a", key, value)
            before = sitting.book()
            try:
                sitting.change(other)
            except CannotGo as refused:
                self.assertEqual(told[0], "parted")
                self.assertIn(refused.key, read_by(steps, before)[0])
                self.assertEqual((sitting.form(), sitting.book()), (steps, before))
                seen["stuck"] += 1
                continue
            seen[told[0]] += 1
            self.assertEqual(sitting.book(), carried(steps, before, other))
            answers = {key: value for key, value in answers_by(steps, before).items() if key in keys_of(other)}
            self.assertTrue(all(answers[key] == value for key, value in sitting.answers().items()))
            if told[0] == "alike":
                self.assertEqual(read(other, sitting.answers(), None, True)[0], read(steps, answers_by(steps, before), None, True)[0])
            sitting.back()
            self.assertEqual((sitting.form(), sitting.book()), (steps, before))

    def test_put_right_just_what_hangs_is_asked_anew(self):
        chance = random.Random(126)
        many = 0
        while many < 60:
            steps = small_form(chance, 12)
            keys = keys_of(steps)
            one = dict(self.any_answers(chance, steps))
            key = chance.choice(keys)
            other = {**one, key: random_value(chance, dict(made_rows.keys_asked(steps))[key])}
            unlike = set(read(steps, one, None, True)[0]) ^ set(read(steps, other, None, True)[0])
            self.assertLessEqual(unlike, set(hangs_on(steps, key)))
            many += len(unlike)


class TestLargest(unittest.TestCase):
    """The largest that the document lets be handed in."""

    def test_forms_of_width_two_thousand(self):
        steps = wide_form(WIDE)
        self.assertEqual(width_of(steps), 2000)
        desk = Desk()
        desk.say("form " + folded(form_text(steps)))
        for many, (name, _) in enumerate(keys_of(steps)):
            self.assertEqual(desk.say(f"come {name} 0"), str(many))
            desk.say(f"tell {many} a {name} 0 {1000 - many}")
        desk.say("change " + folded(form_text(steps + form("ask z pick x"))))
        self.assertEqual(desk.say("taken").count(","), len(keys_of(steps)) - 1)

    def test_forty_records_by_eight_lines_over_four_folk(self):
        rows = ["ask n count 0 4", "ask a pick u v w x y z", "each r n", "ask b some u v w x y z", "ask c count 0 1000000", *["soft ( c from 7 or b has u )"] * 50, "end"]
        steps = form(" / ".join(rows))
        found = []
        for number in range(40):
            record = {("n", 0): number % 5, ("a", 0): "uvwxyz"[number % 6]}
            for person in range(1, number % 5 + 1):
                record[("b", person)] = tuple(option for at, option in enumerate("uvwxyz") if (number + person) >> at & 1)
                record[("c", person)] = (number * person) ** 2
            found.append(record)
        self.assertTrue(are_records(steps, tuple(found)))
        bounds = [0, 10, 100, 1000, 5000, 10000, 50000, 100000, 1000001]
        rows = tuple(("and", (("from", "c", low), ("to", "c", high - 1))) for low, high in zip(bounds, bounds[1:]))
        columns = tuple(condition(text) for text in ("a is u", "a is v", "a is w", "a is x", "a is y", "( a is z and b has u )", "( a is z and not b has u and b has v )", "( a is z and not ( b has u or b has v ) )"))
        weights = tuple(pair_of(Fraction(number, 41)) for number in range(40))
        told = cross(steps, tuple(found), rows, columns, weights, "r")
        self.assertEqual(told[3], pair_of(Fraction(sum(number * (number % 5) for number in range(40)), 41)))
        self.assertEqual([len(part) for part in told[:3]], [8, 8, 8])
        self.assertEqual(cross(steps, tuple(found), rows, columns, None, "r")[3], (80, 1))
        self.assertEqual(rounds_in(steps), ["r"])

    def test_twelve_rows_by_ten_margins(self):
        chance = random.Random(127)
        for _ in range(50):
            fits = tuple(tuple(chance.random() < 0.5 for _ in range(10)) for _ in range(12))
            totals = tuple((chance.choice((-1, 1, 1, 1, 1, 1)) * (1000 - at), 1000 - at + chance.choice((-1, 1)) if at else 999) for at in range(10))
            self.assertTrue(shows_weights(fits, totals, weights_for(fits, totals)))

    def test_six_by_six_all_hidden(self):
        chance = random.Random(128)
        counts = tuple(tuple(chance.choice((10 ** 9, 10 ** 9 - chance.randrange(9), 0)) for _ in range(6)) for _ in range(6))
        hidden = tuple((row, column) for row in range(6) for column in range(6))
        for place in hidden:
            self.assertTrue(shows_bounds(counts, hidden, place, bounds_at(counts, hidden, place)))
        self.assertEqual(given_away(counts, hidden), ())

    def test_a_form_of_sixty_steps_and_a_book_of_two_hundred(self):
        asks = [f"ask q{first}{second} pick x y" for first in "abcdef" for second in "abcdefghij"]
        steps = read_form("\n".join(asks))
        self.assertEqual(len(steps), 60)
        sitting = Sitting(steps)
        for moment in range(200):
            sitting.tell(moment, "a", (steps[moment % 60][1], 0), "xy"[moment % 2])
        self.assertEqual((sitting.now(), len(sitting)), (("end",), 200))
        sitting.change(steps[::-1])
        self.assertEqual((sitting.now(), len(sitting)), (("end",), 60))
        self.assertTrue(are_records(steps, (sitting.answers(),) * 40))
        for _ in range(201):
            sitting.back()
        self.assertEqual(sitting, Sitting(steps))
