"""Crashes in a row: whether they never come to more than one crash does."""

# Stands in a chain for a value that no later crash can keep.
UNUSED = -1


def are_transitive(crashes):
    """Return whether any two crashes in a row come to what one crash may do, too (point 5)."""
    chains = CrashChains(crashes)
    pairs = [(mode, crash) for mode, entry in enumerate(crashes) for crash in entry]
    # Crashes that keep many values come first: what keeps fewer is often a chain of them.
    for mode, crash in sorted(pairs, key=_kept_count, reverse=True):
        if not chains.take(mode, crash):
            return False
    return True


def _kept_count(pair):
    _, crash = pair
    return len(set(crash[1]))


class CrashChains:
    """What the crashes that were taken so far come to, in a row of any length.

    A table may have thousands of crashes, too many to try every two of them. So a chain is
    continued only by links: crashes that were no chain of earlier ones when they were taken. And
    of the chains that agree in all that a crash of their last mode can keep, only one is continued.
    """

    def __init__(self, crashes):
        self.crashes = [{crash: True for crash in entry} for entry in crashes]
        self.used = [{slot: True for _, kept in entry for slot in kept} for entry in crashes]
        self.chains = [{} for _ in crashes]
        self.links = [[] for _ in crashes]
        self.ends = [{} for _ in crashes]

    def take(self, mode, crash):
        """Add a crash of the mode. Return whether every chain, as far as it was followed, is a crash."""
        if crash in self.chains[mode]:
            return True
        self.links[mode].append(crash)
        waiting = [(start, _continued(row, crash)) for start, row in self.ends[mode]]
        waiting.append((mode, crash))
        while waiting:
            start, chain = waiting.pop()
            if chain not in self.crashes[start]:
                return False
            if chain not in self.chains[start]:
                self.chains[start][chain] = True
                waiting.extend(self._continuations(start, chain))
        return True

    def _continuations(self, start, chain):
        """Return what the chain and each link behind it come to, if no chain like it was continued."""
        mode, kept = chain
        used = self.used[mode]
        row = tuple([value if slot in used else UNUSED for slot, value in enumerate(kept)])
        if (start, row) in self.ends[mode]:
            return []
        self.ends[mode][(start, row)] = True
        return [(start, _continued(row, link)) for link in self.links[mode]]


def _continued(row, crash):
    mode, kept = crash
    return (mode, tuple([row[slot] for slot in kept]))
