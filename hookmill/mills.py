"""A mill: a net that is kept, with the meetings done on it, which can be taken back."""

from hookmill.meeting import Bench


class Mill:
    def __init__(self, book, net):
        self.bench = Bench(book, net)

    def meet(self, a, b):
        return self.bench.meet(a, b)

    def take_back(self):
        return self.bench.take_back()

    def standing(self):
        return self.bench.net_now()

    def deeds(self):
        return self.bench.pairs_done()

    def open_now(self):
        return self.bench.open_now()
