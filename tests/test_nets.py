from heldbest.errors import NoLetter
from heldbest.nets import Net
from tests.helping import HUGE, Case

LETTERS = [("bid", 0, seeker, 1, 5) for seeker in range(3)] + [("told", 0, 1, 2, 3, 4, -1)]


def net_of(letters):
    net = Net()
    for letter in letters:
        net.send(letter)
    return net


class NetTest(Case):
    def stays(self, error, net, ask, *passed):
        before = net.letters
        self.refuses(error, ask, *passed)
        self.assertEqual(net.letters, before)

    def test_an_empty_net(self):
        net = Net()
        self.answers((), lambda: net.letters)
        self.assertEqual(list(net), [])
        for wrong in (0, -1, 1, HUGE):
            self.stays(NoLetter(wrong), net, net.at, wrong)
            self.stays(NoLetter(wrong), net, net.take_out, wrong)

    def test_send(self):
        net = Net()
        for many, letter in enumerate(LETTERS, start=1):
            self.assertIs(net.send(letter), True)
            self.answers(tuple(LETTERS[:many]), lambda: net.letters)

    def test_lists_become_tuples(self):
        net = Net()
        letter = ["bid", 0, 1, 2, 3]
        self.assertIs(net.send(letter=letter), True)
        self.assertEqual(letter, ["bid", 0, 1, 2, 3])
        letter[1] = 5
        self.answers((("bid", 0, 1, 2, 3),), lambda: net.letters)
        self.answers(("bid", 0, 1, 2, 3), net.at, 0)
        self.answers([("bid", 0, 1, 2, 3)], lambda: list(net))
        self.assertEqual(net.take_out(0), ("bid", 0, 1, 2, 3))

    def test_at(self):
        net = net_of(LETTERS)
        for at, letter in enumerate(LETTERS):
            self.answers(letter, net.at, at=at)
        for wrong in (-1, 4, 5, HUGE, -HUGE):
            self.stays(NoLetter(wrong), net, net.at, wrong)
            self.stays(NoLetter(wrong), net, net.take_out, wrong)

    def test_take_out(self):
        for at in range(4):
            net = net_of(LETTERS)
            self.assertEqual(net.take_out(at=at), LETTERS[at])
            self.answers(tuple(LETTERS[:at] + LETTERS[at + 1:]), lambda: net.letters)
            self.stays(NoLetter(3), net, net.take_out, 3)
        net = net_of(LETTERS)
        self.assertEqual([net.take_out(0) for _ in range(4)], LETTERS)
        self.assertEqual(net.letters, ())

    def test_a_full_net(self):
        net = net_of(LETTERS[:1] * 199)
        self.assertEqual(len(net.letters), 199)
        self.assertIs(net.send(LETTERS[1]), True)
        self.assertEqual(len(net.letters), 200)
        before = net.letters
        self.assertIs(net.send(LETTERS[2]), False)
        self.assertIs(net.send(LETTERS[0]), False)
        self.assertEqual(net.letters, before)
        self.answers(LETTERS[1], net.at, 199)
        self.stays(NoLetter(200), net, net.at, 200)
        net.take_out(0)
        self.assertIs(net.send(LETTERS[2]), True)
        self.assertEqual(net.letters[-2:], (LETTERS[1], LETTERS[2]))

    def test_iterating(self):
        net = net_of(LETTERS)
        self.assertEqual(list(net), LETTERS)
        self.assertEqual(list(net), LETTERS)
        self.assertEqual([(one, two) for one in net for two in net], [(one, two) for one in LETTERS for two in LETTERS])
        self.assertTrue(LETTERS[2] in net)

    def test_letters_of_the_same_kind_stay_apart(self):
        net = net_of(LETTERS[:1] * 3)
        net.take_out(1)
        self.assertEqual(net.letters, (LETTERS[0], LETTERS[0]))
        other = Net()
        self.assertEqual(other.letters, ())
