"""Runs of drawn events, beside a plain world, and the facts that the document tells of them."""

import random

from heldbest.bills import bills, ledger
from heldbest.duals import profits
from heldbest.errors import HeldError, NotAtRest, TooHeavy, Warm
from heldbest.events import act
from heldbest.judging import judge
from heldbest.leastrows import least_prices
from heldbest.moments import at_rest, given_up, held_now, lot_now, prices_now, slips_now, taken_now
from heldbest.plain import plain_best
from heldbest.seats import value
from heldbest.serving import bids_bound, rest, rounds_bound, serve
from heldbest.slips import slips_fault, slips_held, slips_lot
from heldbest.starts import is_cold
from heldbest.traces import read_trace, replay, write_trace
from heldbest.worlds import World, seeker_view
from heldbest.worldtexts import world_text
from tests.drawing import drawn_event
from tests.helping import Case, error_shown, shown
from tests.plainly import some_tables
from tests.plainworld import PlainWorld

TABLES = some_tables(39, 90, desks=3, seekers=4, places=2, worth=3, most=6)


def refusal(ask, *passed):
    """What the call is refused with, or None."""
    try:
        ask(*passed)
    except HeldError as error:
        return error_shown(error)
    return None


def drawn_run(source, table, many):
    """A world behind drawn events."""
    world = World(table)
    for _ in range(many):
        refusal(act, world, drawn_event(source, world))
    return world


class PlainWorldTest(Case):
    def test_each_event(self):
        source = random.Random(43)
        for table in TABLES:
            world, plain = World(table), PlainWorld(table)
            for _ in range(80):
                event = drawn_event(source, world)
                before = (world_text(world), world.events)
                told = refusal(act, world, event)
                self.assertEqual(told, refusal(plain.act, event), event)
                self.assertEqual(world_text(world), plain.text(), event)
                if told is None:
                    self.assertEqual(world.events[:-1], before[1])
                    self.assertEqual(world.events[-1][0], event[0])
                else:
                    self.assertEqual((world_text(world), world.events), before, event)
                self.assertEqual(held_now(world), plain.held())
                self.assertEqual(slips_now(world), tuple(plain.slip(desk) for desk in range(table.desks)))


class FactsTest(Case):
    def looks_sound(self, world):
        """The facts of points 42 and 45 that hold at every moment."""
        table, slips, held, lot = world.newest_table, slips_now(world), held_now(world), lot_now(world)
        seated = [seeker for slip in slips for seeker, _ in slip[4]]
        self.assertEqual(len(seated), len(set(seated)))
        self.assertIsNone(judge(table, held, prices_now(world), lot=lot, measure=table.scale, slack=1))
        self.assertEqual(value(table, held), plain_best(table, lot)[0])
        self.assertEqual(given_up(world), tuple(seeker for seeker in lot if held[seeker] == -1))
        self.assertIsNone(slips_fault(table, world.newest_era, slips))
        self.assertEqual(slips_held(table, world.newest_era, slips), held)
        self.assertLessEqual(set(lot), set(slips_lot(table, world.newest_era, slips)))
        self.assertLessEqual(taken_now(world), bids_bound(table))
        for seeker in range(table.seekers):
            view = seeker_view(world, seeker)
            if view is not None and view[0] == world.newest_era:
                for (serial, price), slip in zip(view[3], slips):
                    self.assertLessEqual((serial, price), (slip[2], slip[3]))
                    self.assertLessEqual(price, slip[3])

    def looks_cold(self, world):
        """The facts of point 42 for cold eras."""
        table = world.newest_table
        for slip, places, least in zip(slips_now(world), table.places, least_prices(table)):
            amounts = {amount for _, amount in slip[4]}
            if len(slip[4]) < places:
                self.assertLessEqual(amounts, {1})
            else:
                self.assertLessEqual(amounts, {slip[3], slip[3] + 1})
            self.assertLessEqual(slip[3], table.scale * least + 2 * table.desks)

    def test_every_moment(self):
        source = random.Random(42)
        for table in TABLES:
            world, told, slips = World(table), {}, slips_now(World(table))
            for _ in range(80):
                event, era = drawn_event(source, world), world.newest_era
                refused = refusal(act, world, event) is not None
                self.looks_sound(world)
                if is_cold(world.newest_table, world.gazette.newest_start):
                    self.looks_cold(world)
                for letter in world.net:
                    if letter[0] == "told":
                        least = told.get((letter[1], letter[2]), (0, 0))
                        told[letter[1], letter[2]] = max(least, (letter[4], letter[5]))
                before, slips = slips, slips_now(world)
                for old, new in zip(before, slips):
                    least = told.get((world.newest_era, new[0]), (0, 0))
                    self.assertTrue(new[2] >= least[0] and new[3] >= least[1])
                    if era == world.newest_era and (refused or event[:3] != ("fall", "desk", new[0])):
                        self.assertTrue(new[2] >= old[2] and new[3] >= old[3], event)

    def test_slips_of_unlike_moments(self):
        source = random.Random(45)
        words = ("bring",) * 12 + ("nudge",) * 8 + ("sync",) * 6 + ("copy", "lose", "fall", "rise", "rise", "serve")
        mixed = 0
        for table in TABLES:
            world = World(table)
            moments = [slips_now(world)]
            for _ in range(60):
                refusal(act, world, drawn_event(source, world, words))
                moments.append(slips_now(world))
            held = {held_now(world)}
            for _ in range(60):
                slips = [source.choice(moments)[desk] for desk in range(table.desks)]
                if slips_fault(table, 0, slips) is None:
                    lot, seated = slips_lot(table, 0, slips), slips_held(table, 0, slips)
                    self.assertEqual(value(table, seated), plain_best(table, lot)[0])
                    mixed += seated not in held
        self.assertGreater(mixed, 100)

    def test_replay(self):
        source = random.Random(44)
        for table in TABLES[:60]:
            world = drawn_run(source, table, 60)
            told = read_trace(write_trace(world.events))
            self.assertEqual(shown(told), shown(world.events))
            again = replay(table, *told)
            self.assertEqual(world_text(again), world_text(world))
            self.assertEqual(shown(again.events), shown(world.events))


class RestTest(Case):
    def looks_at_rest(self, world):
        """The facts of points 43, 47 and 48."""
        table = world.newest_table
        self.assertTrue(at_rest(world))
        self.assertEqual((world.net.letters, lot_now(world)), ((), tuple(range(table.seekers))))
        held = held_now(world)
        self.assertEqual(value(table, held), plain_best(table)[0])
        if not is_cold(table, world.gazette.newest_start):
            error = error_shown(Warm(world.newest_era))
            self.assertEqual((refusal(bills, world), refusal(ledger, world)), (error, error))
            return
        least = least_prices(table)
        self.assertEqual(bills(world), least)
        self.assertEqual(bills(world), tuple((price + table.desks) // table.scale for price in prices_now(world)))
        lines = ledger(world)
        self.assertEqual([line[4] for line in lines], list(profits(table, least)))
        self.assertEqual([line[:2] for line in lines], list(enumerate(held)))

    def test_rest(self):
        source = random.Random(48)
        for table in TABLES:
            world = drawn_run(source, table, 50)
            if not at_rest(world):
                error = error_shown(NotAtRest())
                self.assertEqual((refusal(bills, world), refusal(ledger, world)), (error, error))
            before, rounds = world.events, rest(world)
            self.assertLessEqual(rounds, rounds_bound(world.newest_table))
            self.assertEqual(world.events, before + (("serve",),) * rounds)
            self.looks_at_rest(world)
            slips = slips_now(world)
            for _ in range(3):
                self.assertEqual(serve(world), 0)
                self.assertEqual(slips_now(world), slips)
                self.looks_at_rest(world)
            self.assertEqual(rest(world), 0)

    def test_the_bills_do_not_depend_on_the_events_before(self):
        source = random.Random(47)
        words = ("bring",) * 12 + ("nudge",) * 8 + ("sync",) * 6 + (
            "copy", "lose", "trip", "post", "fall", "rise", "rise", "stumble", "compact", "tear", "serve")
        for table in TABLES[:40]:
            if bids_bound(table) > 1000:
                self.assertEqual(refusal(rest, World(table)), error_shown(TooHeavy(bids_bound(table))))
                continue
            told = []
            for many in (0, 20, 80):
                world = World(table)
                for _ in range(many):
                    refusal(act, world, drawn_event(source, world, words))
                rest(world)
                told.append((bills(world), value(table, held_now(world))))
            self.assertEqual(told, [(least_prices(table), plain_best(table)[0])] * 3)
