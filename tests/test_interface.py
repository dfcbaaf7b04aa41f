import importlib
import inspect
import unittest

FUNCTIONS = {
    "limits": {"within": "(what, value, least, most)"},
    "words": {"is_number": "(word)", "split_words": "(line)"},
    "edits": {
        "joined": "(table, row)",
        "rowed": "(table, seeker, row)",
        "valued": "(table, seeker, desk, worth)",
        "placed": "(table, desk, places)",
        "only": "(table, lot)",
    },
    "changes": {"changed": "(before, after)"},
    "tabletexts": {"write_table": "(table)", "read_table": "(text)"},
    "lots": {
        "seekers_of": "(table, lot=None)",
        "lot_with": "(table, lot, seeker)",
        "lot_without": "(table, lot, seeker)",
    },
    "seats": {
        "seat_fault": "(table, held)",
        "loads": "(table, held)",
        "value": "(table, held)",
        "holders": "(table, held, desk)",
    },
    "listings": {
        "plain_work": "(table, lot=None)",
        "assignments": "(table, lot=None)",
        "count_assignments": "(table, lot=None)",
    },
    "plain": {"plain_best": "(table, lot=None)", "plain_bests": "(table, lot=None)"},
    "strands": {"difference": "(table, one, two)"},
    "chains": {
        "strand_gain": "(table, steps)",
        "follow": "(table, held, steps)",
        "mixed": "(table, one, two, picks)",
    },
    "judging": {
        "envy": "(table, seeker, desk, prices, *, measure=1, slack=0)",
        "judge": "(table, held, prices, *, lot=None, measure=1, slack=0)",
    },
    "duals": {
        "gain": "(table, seeker, desk, prices, *, measure=1)",
        "profit": "(table, seeker, prices, *, measure=1)",
        "profits": "(table, prices, *, measure=1)",
        "ceiling": "(table, prices, *, lot=None, measure=1)",
    },
    "entries": {
        "price_of": "(entries, places)",
        "amount_of": "(entries, seeker)",
        "take": "(entries, places, seeker, amount)",
    },
    "starts": {
        "start_fault": "(table, start)",
        "start_held": "(table, start)",
        "start_prices": "(table, start)",
        "start_of": "(table, held, prices)",
        "is_cold": "(table, start)",
    },
    "papertexts": {"write_paper": "(table, held, prices)", "read_paper": "(table, text)"},
    "solving": {"solve": "(table, lot=None)", "best_value": "(table, lot=None)"},
    "gains": {"best_way": "(table, lot, held, prices, seeker)"},
    "entering": {"enter": "(table, lot, held, prices, seeker)"},
    "leaving": {"leave": "(table, lot, held, prices, seeker)"},
    "mending": {"mend": "(before, held, after)"},
    "leastrows": {"least_prices": "(table, lot=None)"},
    "greatestrows": {"greatest_prices": "(table, lot=None)"},
    "lattices": {
        "is_accepted": "(table, prices, lot=None)",
        "price_ranges": "(table, lot=None)",
        "accepted_rows": "(table, lot=None)",
    },
    "margins": {
        "one_more": "(table, desk)",
        "one_less": "(table, desk)",
        "gain_for_all": "(table, seeker)",
        "cost_to_others": "(table, held, seeker)",
    },
    "corners": {"corner": "(table, seeker, desk)", "cell_use": "(table, seeker, desk)"},
    "groups": {
        "group_value": "(table, lot, seats)",
        "betters": "(table, profits, prices, lot, seats)",
        "pair_fault": "(table, profits, prices)",
    },
    "reasons": {
        "reason": "(table, held, prices, desk)",
        "reason_fault": "(table, held, prices, desk, steps)",
    },
    "falserows": {"nets": "(table, seeker, row)"},
    "letters": {
        "bid_letter": "(era, seeker, desk, amount)",
        "told_letter": "(era, desk, seeker, serial, price, own)",
        "address": "(letter)",
        "write_letter": "(letter)",
        "read_letter": "(text)",
    },
    "choosing": {"left_at": "(row, scale, known)", "choose": "(row, scale, known)"},
    "sums": {"text_sum": "(text)"},
    "records": {"write_record": "(words)", "read_records": "(text)"},
    "desklogs": {
        "desk_head": "(generation, era, places, serial, entries)",
        "take_record": "(seeker, amount)",
        "era_record": "(era, places, entries)",
        "desk_state": "(text)",
    },
    "seekerlogs": {
        "seeker_head": "(generation, era, bid)",
        "bid_record": "(era, bid)",
        "seeker_state": "(text)",
    },
    "compacting": {
        "current_slot": "(kind, disk)",
        "state_on": "(kind, disk)",
        "new_head": "(kind, house, disk)",
        "compact": "(kind, house, disk)",
    },
    "worlds": {
        "desk_view": "(world, desk)",
        "seeker_view": "(world, seeker)",
        "disk_view": "(world, kind, number)",
    },
    "moments": {
        "slip_now": "(world, desk)",
        "slips_now": "(world)",
        "held_now": "(world)",
        "prices_now": "(world)",
        "lot_now": "(world)",
        "given_up": "(world)",
        "taken_now": "(world)",
        "at_rest": "(world)",
    },
    "events": {"act": "(world, event)"},
    "serving": {
        "bids_bound": "(table)",
        "rounds_bound": "(table)",
        "serve": "(world)",
        "rest": "(world)",
    },
    "traces": {
        "write_event": "(event)",
        "read_event": "(text)",
        "write_trace": "(events)",
        "read_trace": "(text)",
        "replay": "(table, *events)",
    },
    "slips": {
        "slips_fault": "(table, era, slips)",
        "slips_held": "(table, era, slips)",
        "slips_lot": "(table, era, slips)",
        "write_slip": "(slip)",
    },
    "bills": {"bill": "(table, price)", "bills": "(world)", "ledger": "(world)"},
    "worldtexts": {"world_text": "(world)"},
    "trials": {"told_together": "(office, *lines)"},
    "columns": {"columns": "(lines)"},
}

CLASSES = {
    "tables": {
        "Table": {
            "__init__": "(self, places, rows, most)",
            "worth": "(self, seeker, desk)",
            "weight": "(self, seeker, desk)",
        },
    },
    "houses": {"House": {"__init__": "(self, number, era)", "words": "(self)"}},
    "desks": {
        "DeskHouse": {
            "__init__": "(self, number, era, places, entries=(), *, serial=0)",
            "take": "(self, seeker, amount)",
            "wait": "(self, seeker)",
            "told": "(self, seeker)",
            "served": "(self)",
            "words": "(self)",
            "moved": "(self, era, places, entries)",
        },
    },
    "seekers": {
        "SeekerHouse": {
            "__init__": "(self, number, era, row, scale, bid=None)",
            "decide": "(self)",
            "hear": "(self, desk, serial, price, own)",
            "letter": "(self)",
            "words": "(self)",
            "moved": "(self, era, row, scale, bid)",
        },
    },
    "disks": {
        "Disk": {
            "__init__": "(self)",
            "add": "(self, slot, text)",
            "begin": "(self, slot, text)",
            "sync": "(self)",
            "cut": "(self, keep)",
            "synced": "(self, slot)",
        },
    },
    "gazette": {
        "Gazette": {
            "__init__": "(self, table)",
            "table_of": "(self, era)",
            "start_of_era": "(self, era)",
            "admit": "(self, row)",
            "turn": "(self, table, start)",
        },
    },
    "nets": {
        "Net": {
            "__init__": "(self)",
            "__iter__": "(self)",
            "send": "(self, letter)",
            "take_out": "(self, at)",
            "at": "(self, at)",
        },
    },
    "worlds": {"Home": {"__init__": "(self, house, disk)"}, "World": {"__init__": "(self, table)"}},
    "clerks": {
        "Clerk": {
            "__init__": "(self, table, era)",
            "note": "(self, *slips)",
            "worth": "(self)",
            "bills": "(self)",
        },
    },
    "offices": {
        "Office": {
            "__init__": "(self, table)",
            "tell": "(self, text)",
            "undo": "(self)",
            "redo": "(self)",
        },
    },
    "trials": {
        "Trial": {
            "__init__": "(self, office)",
            "__enter__": "(self)",
            "__exit__": "(self, kind, value, trace)",
        },
    },
}

PROPERTIES = {
    "tables": {"Table": ("desks", "seekers", "scale")},
    "desks": {"DeskHouse": ("entries", "price", "waits")},
    "seekers": {"SeekerHouse": ("row", "scale", "known")},
    "disks": {"Disk": ("pending",)},
    "gazette": {"Gazette": ("newest", "newest_table", "newest_start", "cold")},
    "nets": {"Net": ("letters",)},
    "worlds": {"World": ("newest_table", "newest_era", "events")},
    "clerks": {"Clerk": ("noted", "trouble", "lot", "held")},
    "offices": {"Office": ("world", "record")},
}

CLASS_VALUES = {
    "tables": {"Table": {"STEP": 3}},
    "houses": {"House": {"KIND": "house"}},
    "desks": {"DeskHouse": {"KIND": "desk"}},
    "seekers": {"SeekerHouse": {"KIND": "seeker"}},
}


def parameters_of(function):
    """The parameters without annotations."""
    signature = inspect.signature(function)
    plain = [told.replace(annotation=inspect.Parameter.empty) for told in signature.parameters.values()]
    return str(inspect.Signature(plain))


class InterfaceTest(unittest.TestCase):
    def test_functions(self):
        for module, functions in FUNCTIONS.items():
            for name, parameters in functions.items():
                with self.subTest(f"{module}.{name}"):
                    function = getattr(importlib.import_module("heldbest." + module), name)
                    self.assertTrue(inspect.isfunction(function))
                    self.assertEqual(function.__module__, "heldbest." + module)
                    self.assertEqual(parameters_of(function), parameters)

    def test_generators(self):
        listings = importlib.import_module("heldbest.listings")
        lattices = importlib.import_module("heldbest.lattices")
        self.assertTrue(inspect.isgeneratorfunction(listings.assignments))
        self.assertTrue(inspect.isgeneratorfunction(lattices.accepted_rows))

    def test_classes(self):
        for module, classes in CLASSES.items():
            for name, methods in classes.items():
                made = getattr(importlib.import_module("heldbest." + module), name)
                self.assertEqual(made.__module__, "heldbest." + module)
                for method, parameters in methods.items():
                    with self.subTest(f"{module}.{name}.{method}"):
                        self.assertEqual(parameters_of(vars(made)[method]), parameters)

    def test_class_methods(self):
        made = importlib.import_module("heldbest.disks").Disk
        self.assertIsInstance(vars(made)["holding"], classmethod)
        self.assertEqual(parameters_of(made.holding), "(first, second)")

    def test_properties_and_class_values(self):
        for module, classes in PROPERTIES.items():
            for name, properties in classes.items():
                made = getattr(importlib.import_module("heldbest." + module), name)
                for told in properties:
                    with self.subTest(f"{module}.{name}.{told}"):
                        self.assertIsInstance(vars(made)[told], property)
        for module, classes in CLASS_VALUES.items():
            for name, told in classes.items():
                made = getattr(importlib.import_module("heldbest." + module), name)
                self.assertEqual({key: vars(made)[key] for key in told}, told)
