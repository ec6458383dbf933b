"""Weights, none below 0, by which columns of whole numbers add up to wanted ones; or numbers that bar such weights.

The rows stay whole numbers: all of them over one scale, by which each step divides without rest. So they stay as
short as they can be, also where what is wanted is long.
"""


# Each row is solved for one column. Ahead stand the fillers, one for each row, and behind them the columns: a filler
# makes its row add up where the columns do not, and once it is out of the solved ones it never comes back (but in a
# climb, where it may fill up its row). Of several columns or rows that would do the first one is taken, as else the
# steps might go round without an end.
class Scales:
    def __init__(self, columns, wanted):
        self.fillers = len(wanted)
        self.width = len(wanted) + len(columns)
        self.solved = list(range(len(wanted)))
        self.scale = 1
        self.rows = []
        for place, number in enumerate(wanted):
            filler = [1 if other == place else 0 for other in range(len(wanted))]
            self.rows.append(filler + [column[place] for column in columns] + [number])

    def pivot(self, place, column):
        chosen = self.rows[place]
        by = chosen[column]
        for other in range(len(self.rows)):
            if other != place:
                row = self.rows[other]
                factor = row[column]
                self.rows[other] = [(x * by - y * factor) // self.scale for x, y in zip(row, chosen)]
        self.scale = by
        self.solved[place] = column
        if by < 0:
            self.turn_signs()

    def turn_signs(self):
        turned = []
        for row in self.rows:
            turned.append([-x for x in row])
        self.rows = turned
        self.scale = -self.scale

    def is_tighter(self, place, other, column):
        left = self.rows[place][-1] * self.rows[other][column]
        right = self.rows[other][-1] * self.rows[place][column]
        return left < right or (left == right and self.solved[place] < self.solved[other])

    # The column grows until the tightest row would go below 0, which is then solved for it. There is such a row where
    # some row of the columns has numbers above 0 alone, or each column has one above 0 and none below it: else a weight
    # could grow without an end.
    def take_in(self, column):
        tightest = None
        for place in range(len(self.rows)):
            if self.rows[place][column] > 0:
                if tightest is None or self.is_tighter(place, tightest, column):
                    tightest = place
        self.pivot(tightest, column)

    def sum_of_filled(self):
        total = [0] * (self.width + 1)
        for row, column in zip(self.rows, self.solved):
            if column < self.fillers:
                total = [x + y for x, y in zip(total, row)]
        return total

    def first_lowering(self):
        total = self.sum_of_filled()
        for column in range(self.fillers, self.width):
            if total[column] > 0:
                return column
        return None

    # Told is whether the columns alone add up.
    def empty_fillers(self):
        column = self.first_lowering()
        while column is not None:
            self.take_in(column)
            column = self.first_lowering()
        if self.sum_of_filled()[-1] > 0:
            return False
        for place in range(len(self.rows)):
            if self.solved[place] < self.fillers:
                self.drop_filler(place)
        return True

    # The filler weighs 0 here, so any column that the row has, below 0 too, takes its place and weighs 0.
    def drop_filler(self, place):
        for column in range(self.fillers, self.width):
            if self.rows[place][column] != 0:
                self.pivot(place, column)
                return

    # Behind empty_fillers that told False: no column lowers what the fillers weigh, and they weigh something. So
    # these numbers for the rows, the signs turned, are with no column below 0, but with what is wanted they are.
    def bars(self):
        return [-number for number in self.sum_of_filled()[:self.fillers]]

    # The weights are these over the scale.
    def weight_tops(self):
        tops = [0] * (self.width - self.fillers)
        for row, column in zip(self.rows, self.solved):
            if column >= self.fillers:
                tops[column - self.fillers] = row[-1]
        return tops

    def first_lifting(self, column):
        if column not in self.solved:
            return column
        row = self.rows[self.solved.index(column)]
        for other in range(self.fillers, self.width):
            if row[other] < 0:
                return other
        return None

    # Behind empty_fillers that told True: told is whether the column has a weight above 0 in some sum; then it has
    # one in this one.
    def lift(self, number):
        while self.weight_tops()[number] == 0:
            lifting = self.first_lifting(self.fillers + number)
            if lifting is None:
                return False
            self.take_in(lifting)
        return True

    # Told is whether the column is no sum of those that stand for fillers already; then it stands for one of those
    # left.
    def put_for_filler(self, number):
        for place in range(len(self.rows)):
            if self.solved[place] < self.fillers and self.rows[place][self.fillers + number] != 0:
                self.pivot(place, self.fillers + number)
                return True
        return False

    # What each column, the fillers ahead, would add to the weights times their prices, over the scale. A filler has no
    # price.
    def gains(self, prices):
        added = [0] * self.fillers + [price * self.scale for price in prices]
        for row, column in zip(self.rows, self.solved):
            if column >= self.fillers:
                price = prices[column - self.fillers]
                added = [gain - price * x for gain, x in zip(added, row)]
        return added

    def first_gaining(self, prices):
        for column, gain in enumerate(self.gains(prices)):
            if gain > 0:
                return column
        return None

    # The weights times their prices become the most they can be, where no row adds up to more than what is wanted.
    # Told is for each row what one more in it would be worth, over the scale: none is below 0.
    def climb(self, prices):
        column = self.first_gaining(prices)
        while column is not None:
            self.take_in(column)
            column = self.first_gaining(prices)
        return [-gain for gain in self.gains(prices)[:self.fillers]]
