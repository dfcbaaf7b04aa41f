"""A second world, of lists and dicts, straight from the document; worlds are compared with it.

Tables, best assignments and starts are those of the package; they have tests of their own.
"""

from heldbest.edits import joined, placed, rowed
from heldbest.errors import BadStart, BadWord, Down, NoLetter, NotSynced, OutOfRange, Up
from heldbest.leastrows import least_prices
from heldbest.mending import mend
from heldbest.solving import solve
from heldbest.starts import start_fault, start_of
from heldbest.tabletexts import write_table


def line(*items):
    return " ".join(str(item) for item in items)


def record(*items):
    body = line(*items)
    total = sum((at + 1) * ord(letter) for at, letter in enumerate(body)) % 9973
    return f"{body} {str(total).zfill(4)}\n"


def flat(entries):
    return [item for seeker in sorted(entries) for item in (seeker, entries[seeker])]


def records_of(text):
    """The whole records of a text, as lists of words, and what stands behind them."""
    told = []
    while "\n" in text:
        first, rest = text.split("\n", 1)
        words = first.split(" ")[:-1]
        if first + "\n" != record(*words):
            break
        told.append(words)
        text = rest
    return told, text


def is_out(keep, most):
    return keep < 0 or keep > most


class PlainWorld:
    def __init__(self, table):
        self.eras = [(table, ((),) * table.desks)]
        self.net, self.events = [], []
        self.homes = {"desk": [], "seeker": []}
        for places in table.places:
            house = {"era": 0, "places": places, "serial": 0, "entries": {}, "waits": []}
            self.homes["desk"].append({"house": house, "slots": [record("head", 0, 0, places, 0), ""], "pending": None})
        for row in table.rows:
            self.admit(row)

    def admit(self, row):
        home = {"house": {}, "slots": [record("head", 0, self.newest, -1, 0), ""], "pending": None}
        self.homes["seeker"].append(home)
        self.come(home["house"], self.newest, len(self.homes["seeker"]) - 1, None)

    def come(self, house, era, seeker, bid):
        """A seeker comes to an era as if it were new there."""
        table = self.eras[era][0]
        house.update(era=era, row=table.rows[seeker], scale=table.scale, bid=bid, known=[(0, 0)] * table.desks)
        house["state"] = "idle" if bid is None else "waiting"

    @property
    def newest(self):
        return len(self.eras) - 1

    @property
    def table(self):
        return self.eras[-1][0]

    # Disks

    def current(self, home):
        good = []
        for slot in (0, 1):
            told = records_of(home["slots"][slot])[0]
            if told and told[0][0] == "head":
                good.append((int(told[0][1]), slot))
        return max(good)[1]

    def add(self, home, text):
        slot, fresh, ahead = home["pending"] or (self.current(home), False, "")
        home["pending"] = (slot, fresh, ahead + text)

    def cut(self, home, keep=None):
        if home["pending"] is not None:
            slot, fresh, text = home["pending"]
            home["slots"][slot] = ("" if fresh else home["slots"][slot]) + text[:keep]
            home["pending"] = None

    def is_torn(self, home):
        return records_of(home["slots"][self.current(home)])[1] != ""

    def head(self, kind, house, home):
        generation = int(records_of(home["slots"][self.current(home)])[0][0][1]) + 1
        if kind == "desk":
            state = [house["era"], house["places"], house["serial"], *flat(house["entries"])]
        else:
            state = [house["era"], *(house["bid"] or (-1, 0))]
        return record("head", generation, *state)

    def compact(self, kind, house, home, keep=None):
        head = self.head(kind, house, home)
        home["pending"] = (1 - self.current(home), True, head)
        self.cut(home, keep)

    def logged(self, kind, number, home):
        """The house as its log tells it."""
        told = records_of(home["slots"][self.current(home)])[0]
        house = {}
        if kind == "seeker":
            era, desk, amount = (int(word) for word in told[-1][-3:])
            self.come(house, era, number, None if desk == -1 else (desk, amount))
            return house
        for word, *items in told:
            items = [int(item) for item in items]
            if word == "take":
                self.take(house, *items)
            else:
                era, places, serial, *pairs = items[1:] if word == "head" else [*items[:2], 0, *items[2:]]
                house = {"era": era, "places": places, "serial": serial, "waits": []}
                house["entries"] = dict(zip(pairs[::2], pairs[1::2]))
        house["waits"] = []
        return house

    # Desks and seekers

    def price(self, house):
        entries = house["entries"]
        return 0 if len(entries) < house["places"] else min(entries.values())

    def wait(self, house, seeker):
        if seeker not in house["waits"]:
            house["waits"].append(seeker)

    def take(self, house, seeker, amount):
        entries, taken = house["entries"], False
        self.wait(house, seeker)
        if seeker not in entries and amount > self.price(house) and house["serial"] < 99999:
            taken = True
            house["serial"] += 1
            if len(entries) == house["places"]:
                least = min(entries.values())
                out = max(other for other in entries if entries[other] == least)
                del entries[out]
                self.wait(house, out)
            entries[seeker] = amount
        return taken

    def decide(self, house):
        """True if the seeker has a new bid."""
        if house["state"] != "idle":
            return False
        left = [house["scale"] * worth - price for worth, (_, price) in zip(house["row"], house["known"])]
        best = max(left)
        if best < 1:
            house["state"] = "out"
            return False
        desk = left.index(best)
        house["bid"], house["state"] = (desk, house["known"][desk][1] + 1), "waiting"
        return True

    def hear(self, house, desk, serial, price, own):
        if serial >= house["known"][desk][0]:
            house["known"][desk] = (serial, price)
            if house["bid"] is not None and house["bid"][0] == desk:
                if own == house["bid"][1]:
                    house["state"] = "settled"
                elif own == -1 and price >= house["bid"][1]:
                    house["state"], house["bid"] = "idle", None

    def move(self, kind, number):
        home, start = self.homes[kind][number], self.eras[-1][1]
        house = home["house"]
        if kind == "desk":
            house.update(era=self.newest, places=self.table.places[number], serial=0, entries=dict(start[number]))
            self.add(home, record("era", self.newest, house["places"], *flat(house["entries"])))
        else:
            bids = [(desk, amount) for desk, entries in enumerate(start) for own, amount in entries if own == number]
            self.come(house, self.newest, number, bids[0] if bids else None)

    # What is held now

    def slip(self, desk):
        home = self.homes["desk"][desk]
        house = home["house"] or self.logged("desk", desk, home)
        if house["era"] < self.newest:
            house = {"places": self.table.places[desk], "serial": 0, "entries": dict(self.eras[-1][1][desk])}
        entries = tuple(sorted(house["entries"].items()))
        return (desk, self.newest, house["serial"], self.price(house), entries)

    def held(self):
        held = [-1] * self.table.seekers
        for desk in range(self.table.desks):
            for seeker, _ in self.slip(desk)[4]:
                held[seeker] = desk
        return tuple(held)

    # Looks

    def look(self, what, value, most):
        if is_out(value, most):
            raise OutOfRange(what, value)

    def home(self, kind, number, up=True):
        if kind not in self.homes:
            raise BadWord(kind)
        self.look(kind, number, len(self.homes[kind]) - 1)
        home = self.homes[kind][number]
        if up and home["house"] is None:
            raise Down(kind, number)
        if not up and home["house"] is not None:
            raise Up(kind, number)
        return home

    def letter(self, at):
        if is_out(at, len(self.net) - 1):
            raise NoLetter(at)
        return self.net[at]

    # Events

    def act(self, event):
        word, *items = event
        if word not in ("bring", "copy", "lose", "nudge", "trip", "sync", "post", "fall", "rise", "stumble", "compact",
                        "tear", "join", "turn", "serve"):
            raise BadWord(word)
        getattr(self, "do_" + word)(*items)

    def send(self, letter):
        if len(self.net) < 200:
            self.net.append(letter)

    def do_bring(self, at):
        letter = self.letter(at)
        del self.net[at]
        kind, era, sender, number, *items = letter
        kind = "desk" if kind == "bid" else "seeker"
        home = self.homes[kind][number]
        house = home["house"]
        if house is None:
            return
        if era > house["era"]:
            self.move(kind, number)
        if kind == "seeker" and era == house["era"]:
            self.hear(house, sender, *items)
        elif kind == "desk" and era < house["era"]:
            self.wait(house, sender)
        elif kind == "desk" and self.take(house, sender, *items):
            self.add(home, record("take", sender, *items))

    def do_copy(self, at):
        self.send(self.letter(at))

    def do_lose(self, at):
        self.letter(at)
        del self.net[at]

    def stir(self, seeker):
        """The record that a nudge adds, or an empty text."""
        house = self.homes["seeker"][seeker]["house"]
        if house["era"] < self.newest:
            self.move("seeker", seeker)
        return record("bid", house["era"], *house["bid"]) if self.decide(house) else ""

    def do_nudge(self, seeker):
        home = self.home("seeker", seeker)
        text = self.stir(seeker)
        if text:
            self.add(home, text)
            self.cut(home)
        house = home["house"]
        if house["bid"] is not None:
            desk, amount = house["bid"]
            self.send(("bid", house["era"], seeker, desk, amount))

    def do_trip(self, seeker, keep):
        home = self.home("seeker", seeker)
        kept = dict(home["house"])
        text = self.stir(seeker)
        if is_out(keep, len(text)):
            home["house"] = kept
            raise OutOfRange("keep", keep)
        if text:
            self.add(home, text)
            self.cut(home, keep)
        home["house"] = None

    def do_sync(self, desk):
        home = self.home("desk", desk)
        self.cut(home)
        house = home["house"]
        for seeker in house["waits"]:
            own = house["entries"].get(seeker, -1)
            self.send(("told", house["era"], desk, seeker, house["serial"], self.price(house), own))
        house["waits"] = []

    def do_post(self, desk):
        house = self.home("desk", desk)["house"]
        for seeker in range(self.table.seekers):
            self.wait(house, seeker)

    def do_fall(self, kind, number, keep):
        home = self.home(kind, number)
        self.look("keep", keep, 0 if home["pending"] is None else len(home["pending"][2]))
        self.cut(home, keep)
        home["house"] = None

    def do_rise(self, kind, number):
        home = self.home(kind, number, up=False)
        house = self.logged(kind, number, home)
        if self.is_torn(home):
            self.compact(kind, house, home)
        home["house"] = house

    def do_stumble(self, kind, number, keep):
        home = self.home(kind, number, up=False)
        house = self.logged(kind, number, home)
        self.look("keep", keep, len(self.head(kind, house, home)) if self.is_torn(home) else 0)
        if self.is_torn(home):
            self.compact(kind, house, home, keep)

    def do_compact(self, kind, number):
        home = self.home(kind, number)
        if home["pending"] is not None:
            raise NotSynced(kind, number)
        self.compact(kind, home["house"], home)

    def do_tear(self, kind, number, keep):
        home = self.home(kind, number)
        if home["pending"] is not None:
            raise NotSynced(kind, number)
        self.look("keep", keep, len(self.head(kind, home["house"], home)))
        self.compact(kind, home["house"], home, keep)
        home["house"] = None

    def do_join(self, row):
        self.eras[-1] = (joined(self.table, row), self.eras[-1][1])
        self.admit(self.table.rows[-1])

    def do_turn(self, change, how, start):
        self.look("era", len(self.eras), 999)
        word, *items = change
        if word not in ("same", "row", "places"):
            raise BadWord(word)
        table = {"same": lambda: self.table, "row": lambda: rowed(self.table, *items),
                 "places": lambda: placed(self.table, *items)}[word]()
        if how not in ("cold", "best", "mend", "given"):
            raise BadWord(how)
        if how == "best":
            start = start_of(table, *solve(table))
        elif how == "mend":
            start = start_of(table, mend(self.table, self.held(), table)[0], least_prices(table))
        elif how == "given":
            fault = start_fault(table, start)
            if fault is not None:
                raise BadStart(fault)
        else:
            start = [()] * table.desks
        self.eras.append((table, tuple(tuple(tuple(entry) for entry in entries) for entries in start)))

    def do_serve(self):
        for kind in ("desk", "seeker"):
            for number, home in enumerate(self.homes[kind]):
                if home["house"] is None:
                    self.do_rise(kind, number)
                if home["house"]["era"] < self.newest:
                    self.move(kind, number)
        for seeker in range(self.table.seekers):
            self.do_nudge(seeker)
        for _ in list(self.net):
            self.do_bring(0)
        for desk in range(self.table.desks):
            self.do_sync(desk)
        for _ in list(self.net):
            self.do_bring(0)

    # The world text

    def text(self):
        told = []
        for era, (table, start) in enumerate(self.eras):
            told += [line("era", era), write_table(table)]
            told += [line("start", desk, *flat(dict(entries))) for desk, entries in enumerate(start)]
        for desk, home in enumerate(self.homes["desk"]):
            house = home["house"]
            told.append(line("desk", desk, "down") if house is None else line(
                "desk", desk, "up", house["era"], house["places"], house["serial"],
                "entries", *flat(house["entries"]), "waits", *house["waits"]))
        for seeker, home in enumerate(self.homes["seeker"]):
            house = home["house"]
            told.append(line("seeker", seeker, "down") if house is None else line(
                "seeker", seeker, "up", house["era"], house["state"], *(house["bid"] or (-1, 0)),
                "knows", *[item for pair in house["known"] for item in pair]))
        for kind in ("desk", "seeker"):
            for number, home in enumerate(self.homes[kind]):
                told.append(line("disk", kind, number))
                for slot, text in enumerate(home["slots"]):
                    told += [line("slot", slot, len(text)), *text.splitlines()]
                if home["pending"] is None:
                    told.append("pending none")
                else:
                    target, fresh, text = home["pending"]
                    told += [line("pending", target, "fresh" if fresh else "behind", len(text)), *text.splitlines()]
        return "\n".join(told + [line(*letter) for letter in self.net])
