"""From the past: coins are moves read further and further back, until they lead all states to one."""

from asifforever.basics import is_within, lot_of, number_of_text
from asifforever.errors import BadCoin, NoCoins, NoMove, NoPlan, TooMany
from asifforever.systems import is_row


def is_plan(thing):
    """Whether a thing is a plan."""
    return isinstance(thing, str) and thing in ("one", "double")


def looks(plan, many):
    """The numbers of coins that a plan looks at, as far as so many coins reach."""
    if plan == "one":
        return list(range(many + 1))
    found = [0]
    look = 1
    while look <= many:
        found.append(look)
        look = look * 2
    return found


def first_look(plan, many, is_told):
    """The first look of a plan, by so many coins, that tells, the last one if none does; is_told judges a look."""
    found = looks(plan, many)
    low = 0
    high = len(found) - 1
    # What is told once stays told with further coins, so half of the looks may be left out at each step.
    while low < high:
        middle = (low + high) // 2
        if is_told(found[middle]):
            high = middle
        else:
            low = middle + 1
    return found[low]


def led_ahead(system, move, leads):
    """What all states are led to, if a move is done just ahead of what leads them so."""
    _, first = system.moves[move]
    return tuple([leads[state] for state in first])


def led_by_plan(system, coins, plan, states):
    """What states are led to by so many coins, and how many: at the first look that leads them to one, or the last."""
    leads = tuple(range(system.many))
    at = 0
    for look in looks(plan, len(coins)):
        for move in coins[at:look]:
            leads = led_ahead(system, move, leads)
        at = look
        if len(lot_of([leads[state] for state in states])) == 1:
            break
    return tuple([leads[state] for state in states]), at


def drawn(system, coins, plan):
    """What coins tell: ("told", state, so many), or ("undecided", lot, so many) behind the last look."""
    if not is_row(system, coins):
        raise NoCoins()
    if not is_plan(plan):
        raise NoPlan()
    found, many = led_by_plan(system, coins, plan, tuple(range(system.many)))
    lot = lot_of(found)
    return ("told", lot[0], many) if len(lot) == 1 else ("undecided", lot, many)


class Drawer:
    """Reads coin by coin, further back, until a state is told and beyond."""

    def __init__(self, system):
        self._system = system
        self._coins = ()
        self._leads = tuple(range(system.many))
        self._depth = 0 if system.many == 1 else None

    def read(self, move):
        """One coin more, further back; the state that is told now, or None."""
        if not is_within(0, len(self._system.moves) - 1, move):
            raise NoMove()
        if len(self._coins) == 400:
            raise TooMany(400)
        self._coins = self._coins + (move,)
        self._leads = led_ahead(self._system, move, self._leads)
        if self._depth is None and len(self.lot()) == 1:
            self._depth = len(self._coins)
        return self.state()

    def state(self):
        """The state that is told, or None."""
        return None if self._depth is None else self._leads[0]

    def depth(self):
        """How many coins were enough, None if no state is told."""
        return self._depth

    def lot(self):
        """The lot of the states to which all coins so far lead any state."""
        return lot_of(self._leads)

    def coins(self):
        """The tuple of all coins so far."""
        return self._coins

    def copy(self):
        """Another Drawer that has read the same, and goes on apart."""
        other = Drawer(self._system)
        other._coins = self._coins
        other._leads = self._leads
        other._depth = self._depth
        return other


def drawer_text(drawer):
    """The coins of a Drawer as a text."""
    return " ".join([str(move) for move in drawer.coins()]) + "\n"


def drawer_of(system, text):
    """The Drawer that has read the coins of a text."""
    if not isinstance(text, str):
        raise BadCoin(-1)
    line, feed, rest = text.partition("\n")
    coins = [] if line == "" else [number_of_text(word) for word in line.split(" ")]
    for number, move in enumerate(coins):
        if not is_within(0, len(system.moves) - 1, move):
            raise BadCoin(number)
    if feed == "" or rest != "":
        raise BadCoin(len(coins))
    drawer = Drawer(system)
    for move in coins:
        drawer.read(move)
    return drawer


def is_drawn(system, thing):
    """Whether a thing is a pair (state, coins), these the fewest that lead all states to this one."""
    if not isinstance(thing, tuple) or len(thing) != 2:
        return False
    state, coins = thing
    if not is_within(0, system.many - 1, state) or not is_row(system, coins):
        return False
    return drawn(system, coins, "one") == ("told", state, len(coins))
