"""Shapes: numbers for rows of words, in the order in which the rows come."""


class Shapes:
    def __init__(self):
        self.rows = [()]
        self.numbers = {(): 0}

    def number_of(self, words):
        row = tuple(words)
        if row not in self.numbers:
            self.numbers[row] = len(self.rows)
            self.rows.append(row)
        return self.numbers[row]

    def words_of(self, number):
        return list(self.rows[number])

    def grown(self, number, word):
        return self.number_of(self.words_of(number) + [word])

    def without(self, number, word):
        return self.number_of([other for other in self.words_of(number) if other != word])

    def slot_of(self, number, word):
        row = self.words_of(number)
        return row.index(word) if word in row else None

    def many(self):
        return len(self.rows)
