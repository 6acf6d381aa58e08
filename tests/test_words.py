"""Made-up lines, answered by the package and by the document's words taken as literally and as slowly as can be."""

import itertools
import random
import unittest

from helper import flat, parted
from hintmaps.game import answers

LINES = 400
NO_LISTS = {0: [], 1: [(1, 50), None], 5: [(0, 7), (0, 49), None], 7: [(0, 10000)], 8: [(0, 19)], 9: [], 10: [], 11: [],
            12: [(1, 60)], 13: [(1, 60)], 14: [], 15: [(0, 11)], 16: [(0, 11)], 17: [(1, 60)], 18: [(1, 60)],
            19: [(1, 60)], 20: [], 21: [], 22: []}


class Refused(Exception):
    pass


def refuse_if(so, number):
    if so:
        raise Refused(number)


class Literal:
    """One object; a play is a dict, a state a tuple, a belief a list."""

    def __init__(self):
        self.variables, self.doings, self.goal, self.views, self.facts, self.play = [], [], [], [], [], None

    # States

    def met(self, needs, state):
        tests = {0: lambda a, b: a == b, 1: lambda a, b: a != b, 2: lambda a, b: a < b, 3: lambda a, b: a >= b}
        return all(tests[how](state[v], n) for v, how, n in needs)

    def do(self, number, state):
        needs, effects = self.doings[number]
        if not self.met(needs, state):
            return None
        values = dict(enumerate(state))
        for v, how, n in effects:
            if how == 3:
                values[v], values[n] = values[n], values[v]
            else:
                values[v] = {0: lambda: n, 1: lambda: values[v] + n, 2: lambda: values[n]}[how]()
            if any(not 0 <= values[u] < self.variables[u]["size"] for u in values):
                return None
        return tuple(values[u] for u in sorted(values))

    def seen(self, state):
        row = []
        for v, value in enumerate(state):
            row += [1, value] if any(u == v and self.met(needs, state) for u, needs in self.views) else [0]
        return row

    def tried(self, number, state):
        behind = self.do(number, state)
        return ([0] + self.seen(state), state) if behind is None else ([1] + self.seen(behind), behind)

    # Beliefs

    def after(self, belief, number, noticed):
        behind = [self.tried(number, state)[1] for state in belief if self.tried(number, state)[0] == noticed]
        return list(dict.fromkeys(behind))

    def leads_to(self, belief, number):
        rows = []
        for state in belief:
            noticed = self.tried(number, state)[0]
            if noticed not in rows:
                rows.append(noticed)
        return [self.after(belief, number, noticed) for noticed in rows]

    def explored(self, belief, room):
        beliefs, ways, over = [belief], [], False
        for at in itertools.count():
            if at == len(beliefs):
                return beliefs, ways, over
            ways.append({})
            for number in range(len(self.doings)):
                if all(self.do(number, state) is None for state in beliefs[at]):
                    continue
                led = self.leads_to(beliefs[at], number)
                for one in led:
                    if not any(set(one) == set(other) for other in beliefs):
                        if len(beliefs) < room:
                            beliefs.append(one)
                        else:
                            over = True
                places = [[k for k, other in enumerate(beliefs) if set(one) == set(other)] for one in led]
                if all(places):
                    ways[at][number] = [place[0] for place in places]

    def levels(self, beliefs, ways):
        never = 10 ** 6
        levels = [0 if all(self.met(self.goal, s) for s in belief) else never for belief in beliefs]
        while True:
            better = list(levels)
            for at in range(len(beliefs)):
                for led in ways[at].values():
                    better[at] = min(better[at], 1 + max(levels[k] for k in led))
            if better == levels:
                return [None if level >= never else level for level in levels]
            levels = better

    def hint_at(self, at, ways, levels):
        for number, led in sorted(ways[at].items()):
            if all(levels[k] is not None and levels[k] < levels[at] for k in led) \
                    and max(levels[k] for k in led) == levels[at] - 1:
                return number
        return None

    def sure(self, most):
        beliefs, ways, over = self.explored(self.play["belief"], most)
        refuse_if(over, -6)
        return beliefs, ways, self.levels(beliefs, ways)

    def bar(self, f):
        price, needs = self.facts[f]
        if not self.met(needs, self.play["actual"]):
            return 1
        if all(self.met(needs, state) for state in self.play["belief"]):
            return 2
        return 3 if price > self.play["purse"] else 0

    # Rows

    def threes(self, numbers, effects=False):
        refuse_if(len(numbers) > 30 or len(numbers) % 3, -1)
        threes = [tuple(numbers[k:k + 3]) for k in range(0, len(numbers), 3)]
        for v, how, n in threes:
            refuse_if(v not in range(8) or how not in range(4), -1)
            refuse_if(n not in (range(8) if effects and how > 1 else range(-1000, 1001)), -1)
        return threes

    def split(self, row):
        """The place and the arguments: numbers, and lists of numbers."""
        refuse_if(not row or row[0] not in range(23), -100)
        place, rest = row[0], list(row[1:])
        shape = {2: "LL", 3: "L", 4: "NL", 6: "NL"}.get(place) or "N" * len(NO_LISTS[place])
        arguments = []
        for letter in shape:
            refuse_if(not rest, -100)
            number = rest.pop(0)
            if letter == "N":
                arguments.append(number)
            else:
                refuse_if(number < 0 or number > len(rest), -100)
                arguments.append(rest[:number])
                rest = rest[number:]
        refuse_if(rest, -100)
        return place, arguments

    def within(self, place, arguments):
        for span, argument in zip(NO_LISTS.get(place, []), arguments):
            refuse_if(span and not span[0] <= argument <= span[1], -1)
        if place == 1:
            refuse_if(not 0 <= arguments[1] < arguments[0], -1)
        if place == 5:
            refuse_if(not arguments[1] <= arguments[2] <= 49, -1)
        if place == 4:
            refuse_if(not 0 <= arguments[0] <= 7, -1)
        if place == 6:
            refuse_if(not 0 <= arguments[0] <= 1000, -1)
        return [self.threes(a, effects=(place == 2 and k == 1)) if isinstance(a, list) else a
                for k, a in enumerate(arguments)]

    def answer(self, row):
        try:
            place, arguments = self.split(row)
            arguments = self.within(place, arguments)
            refuse_if(place >= 8 and self.play is None, -2)
            answer = getattr(self, "call%d" % place)(*arguments)
        except Refused as refusal:
            return [refusal.args[0]]
        if 1 <= place <= 6:
            self.play = None
        return answer

    # Calls

    def missing(self, *variables):
        refuse_if(any(v >= len(self.variables) for v in variables), -3)

    def call0(self):
        self.__init__()
        return [0]

    def call1(self, size, begin):
        refuse_if(len(self.variables) == 8, -4)
        self.variables.append({"size": size, "begin": begin, "may": [begin]})
        return [len(self.variables) - 1]

    def call2(self, needs, effects):
        self.missing(*[v for v, how, n in needs + effects], *[n for v, how, n in effects if how in (2, 3)])
        refuse_if(len(self.doings) == 20, -4)
        self.doings.append((needs, effects))
        return [len(self.doings) - 1]

    def call3(self, needs):
        self.missing(*[v for v, how, n in needs])
        self.goal = needs
        return [0]

    def call4(self, v, needs):
        self.missing(v, *[u for u, how, n in needs])
        refuse_if(len(self.views) == 20, -4)
        self.views.append((v, needs))
        return [0]

    def call5(self, v, least, greatest):
        self.missing(v)
        refuse_if(not greatest < self.variables[v]["size"], -4)
        refuse_if(not least <= self.variables[v]["begin"] <= greatest, -5)
        self.variables[v]["may"] = list(range(least, greatest + 1))
        return [0]

    def call6(self, price, needs):
        self.missing(*[v for v, how, n in needs])
        refuse_if(len(self.facts) == 12, -4)
        self.facts.append((price, needs))
        return [len(self.facts) - 1]

    def call7(self, purse):
        product = 1
        for variable in self.variables:
            product *= len(variable["may"])
        refuse_if(product > 400, -4)
        begin = tuple(variable["begin"] for variable in self.variables)
        belief = [state for state in itertools.product(*[variable["may"] for variable in self.variables])
                  if self.seen(state) == self.seen(begin)]
        refuse_if(len(belief) > 40, -5)
        self.play = {"actual": begin, "belief": belief, "purse": purse, "past": []}
        return [len(belief)]

    def call8(self, d):
        refuse_if(d >= len(self.doings), -3)
        refuse_if(len(self.play["past"]) >= 200, -4)
        noticed, behind = self.tried(d, self.play["actual"])
        self.play["belief"] = self.after(self.play["belief"], d, noticed)
        self.play["actual"] = behind
        self.play["past"].append([0, d] + noticed)
        return [noticed[0], len(self.play["belief"])]

    def call9(self):
        row = self.seen(self.play["actual"])
        return [len(row)] + row

    def call10(self):
        return [len(self.play["belief"])] + [value for state in self.play["belief"] for value in state]

    def call11(self):
        columns = [set(column) for column in zip(*self.play["belief"])]
        known = [(v, min(column)) for v, column in enumerate(columns) if len(column) == 1]
        return [len(known)] + [number for pair in known for number in pair]

    def call12(self, most):
        level = self.sure(most)[2][0]
        return [-1] if level is None else [level]

    def call13(self, most):
        beliefs, ways, levels = self.sure(most)
        return [1, self.hint_at(0, ways, levels)] if levels[0] else [0]

    def call14(self):
        far, layer, nearest = {self.play["actual"]: None}, [self.play["actual"]], {}
        for state in layer:
            for d in range(len(self.doings)):
                behind = self.do(d, state)
                if behind is not None and behind not in far:
                    far[behind] = None
                    layer.append(behind)
            refuse_if(len(far) > 200, -6)
        for count in range(len(layer) + 1):
            for state in layer:
                if state not in nearest and (self.met(self.goal, state) if count == 0 else any(
                        nearest.get(self.do(d, state)) == count - 1 for d in range(len(self.doings)))):
                    nearest[state] = count
        here = nearest.get(self.play["actual"])
        if not here:
            return [-1 if here is None else 0, 0]
        return [here, 1 + min(d for d in range(len(self.doings))
                              if nearest.get(self.do(d, self.play["actual"])) == here - 1)]

    def call15(self, f):
        refuse_if(f >= len(self.facts), -3)
        return [self.bar(f)]

    def call16(self, f):
        refuse_if(f >= len(self.facts), -3)
        bar = self.bar(f)
        refuse_if(bar, {0: 0, 1: -5, 2: -7, 3: -8}[bar])
        refuse_if(len(self.play["past"]) >= 200, -4)
        self.play["belief"] = [s for s in self.play["belief"] if self.met(self.facts[f][1], s)]
        self.play["purse"] -= self.facts[f][0]
        self.play["past"].append([1, f])
        return [len(self.play["belief"])]

    def call17(self, most):
        level = self.sure(most)[2][0]
        if level is not None:
            return [2, level]
        best = None
        for f, (price, needs) in enumerate(self.facts):
            if self.bar(f) == 0:
                left = [s for s in self.play["belief"] if self.met(needs, s)]
                beliefs, ways, over = self.explored(left, most)
                level = None if over else self.levels(beliefs, ways)[0]
                if level is not None and (best is None or len(left) > best[1]
                                          or (len(left) == best[1] and price < best[2])):
                    best = [f, len(left), price, level]
        return [0] if best is None else [1] + best

    def call18(self, most):
        beliefs, ways, over = self.explored(self.play["belief"], most)
        return [len(beliefs), int(over), sum(len(way) for way in ways)]

    def call19(self, most):
        beliefs, ways, levels = self.sure(most)
        refuse_if(levels[0] is None, -4)
        row = [0]
        for at in row:
            if levels[at]:
                row += [k for k in dict.fromkeys(ways[at][self.hint_at(at, ways, levels)]) if k not in row]
        answer = [len(row)]
        for at in row:
            number = self.hint_at(at, ways, levels) if levels[at] else -1
            led = ways[at][number] if levels[at] else []
            answer += [len(beliefs[at]), levels[at], number, len(led)] + [row.index(k) for k in led]
        return answer

    def call20(self):
        return [len(self.play["actual"])] + list(self.play["actual"])

    def call21(self):
        answer = [len(self.play["past"])]
        for entry in self.play["past"]:
            answer += [len(entry)] + entry
        return answer

    def call22(self):
        return [self.play["purse"]]


class Maker:
    """Makes up a line: a small puzzle, a play of it, and now and then a row that is off."""

    def __init__(self, seed):
        self.chance = random.Random(seed)
        self.sizes, self.begins = [], []

    def variable(self):
        return self.chance.randrange(len(self.sizes))

    def needs(self, least, most):
        numbers = []
        for at in range(self.chance.randint(least, most)):
            v = self.variable()
            numbers += [v, self.chance.choice([0, 0, 0, 1, 2, 3]), self.chance.randrange(self.sizes[v])]
        return [len(numbers)] + numbers

    def truth(self):
        """Needs that the beginning meets, and not many other states."""
        numbers = []
        for at in range(self.chance.choice([1, 1, 2])):
            v = self.variable()
            how, more = self.chance.choice([(0, 0), (0, 0), (3, 0), (2, 1)])
            numbers += [v, how, self.begins[v] + more]
        return [len(numbers)] + numbers

    def effects(self):
        numbers = []
        for at in range(self.chance.choice([1, 1, 1, 2, 3])):
            v = self.variable()
            how = self.chance.choice([0, 0, 1, 1, 2, 3])
            n = {0: self.chance.randrange(self.sizes[v]), 1: self.chance.choice([-2, -1, 1, 1, 1, 2]),
                 2: self.variable(), 3: self.variable()}[how]
            numbers += [v, how, n]
        return [len(numbers)] + numbers

    def goal(self):
        v = self.variable()
        return [3, 3, v, 0, self.chance.choice([n for n in range(self.sizes[v]) if n != self.begins[v]])]

    def variables(self):
        rows = []
        for v in range(self.chance.randint(2, 4)):
            size = self.chance.choice([2, 2, 3, 3, 4])
            begin = self.chance.randrange(size)
            self.sizes.append(size)
            self.begins.append(begin)
            rows.append([1, size, begin])
            if self.chance.random() < 0.7:
                rows.append([5, v, self.chance.randint(0, begin), self.chance.randint(begin, size - 1)])
        return rows

    def puzzle(self):
        rows = self.variables()
        self.doings = self.chance.randint(2, 6)
        self.facts = self.chance.randint(1, 6)
        rows += [[2] + self.needs(0, 2) + self.effects() for at in range(self.doings)]
        rows += [[4, self.variable()] + self.needs(0, 2) for at in range(self.chance.randint(0, 3))]
        for at in range(self.facts):
            needs = self.truth() if self.chance.random() < 0.7 else self.needs(0, 2)
            rows.append([6, self.chance.choice([0, 1, 1, 2, 5])] + needs)
        return rows + [self.goal() if self.chance.random() < 0.8 else [3] + self.needs(0, 2)]

    def asked(self):
        most = self.chance.choice([1, 2, 3, 5, 8, 13, 30, 60, 60, 60])
        fact = self.chance.randint(0, self.facts)
        return self.chance.choice([[8, self.chance.randint(0, self.doings)]] * 3 + [
            [9], [10], [11], [12, most], [13, most], [14], [15, fact], [16, fact], [17, most], [17, most],
            [18, most], [19, most], [19, most], [20], [21], [22]])

    def off(self):
        place = self.chance.choice(list(range(-1, 24)))
        return [place] + [self.chance.choice([-1, 0, 0, 1, 2, 3, 3, 7, 8, 50, 60, 61, 1001])
                          for at in range(self.chance.randint(0, 9))]

    def line(self):
        """What is asked at the beginning, and then as the play goes on."""
        rows = self.puzzle() + [[7, self.chance.choice([0, 1, 2, 9])], [17, 60], [19, 60], [18, 60]]
        for at in range(20):
            rows.append(self.asked())
        for at in range(self.chance.choice([0, 0, 4])):
            rows.insert(self.chance.randint(0, len(rows)), self.off())
        return rows


class Words(unittest.TestCase):
    def test_made_up_lines(self):
        for seed in range(LINES):
            rows = Maker(seed).line()
            literal = Literal()
            expected = [literal.answer(row) for row in rows]
            for row, said, told in zip(rows, parted(answers(flat(rows))), expected, strict=True):
                self.assertEqual(said, told, (seed, row))


if __name__ == "__main__":
    unittest.main()
