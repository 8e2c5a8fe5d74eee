"""Tells a second time what the examiner has to find; nothing of the package is used.

certificate goes along the walk of the document; bears only asks whether all that the document requires holds, in no order.
"""

from keyed import entry_blocks, name_of


class Wrong(Exception):
    pass


def told_inode(table, key):
    """(kind, size, links, keys) of the right inode there, or None."""
    words = table.get(key)
    if words is None or words[0] not in (1, 2):
        return None
    kind, size, links = words[:3]
    most, part = ((336, 28), (12, 3))[kind - 1]
    if size > most or (kind == 2 and links != 1):
        return None
    many = -(-size // part)
    return None if sum(words[3 + many:]) else (kind, size, links, words[3:3 + many])


def told_entries(size, contents):
    rows = [block[at:at + 9] for block in contents for at in (0, 9, 18)]
    if any(max(row[:8]) > 26 for row in rows) or any(block[27] for block in contents):
        return None
    entries = [(name_of(row[:8]), row[8]) for row in rows[:size]]
    told = [name for name, _ in entries]
    if "" in told or told != sorted(set(told)) or entry_blocks(entries) != list(contents):
        return None
    return entries


def told_words(size, contents):
    words = [word for block in contents for word in block]
    return None if sum(words[size:]) else words[:size]


def visits(table):
    """Goes along the walk: yields what is reached as (key, owner), and raises what is wrong first."""
    reached, kinds, order = {}, {0: 2}, [0]
    first = told_inode(table, 0)
    if first is None or first[0] == 1:
        raise Wrong("inode", 0)
    reached[0] = "inode"
    yield 0, ("root",)
    for key in order:
        kind, size, _, keys = told_inode(table, key)
        for at, block in enumerate(keys):
            if block in reached:
                raise Wrong("twice", block)
            if block not in table:
                raise Wrong("lacking", block)
            reached[block] = "block"
            yield block, ("block", key, at)
        contents = [table[block] for block in keys]
        told = told_words(size, contents) if kind == 1 else told_entries(size, contents)
        if told is None:
            raise Wrong("block", key)
        for name, child in told if kind == 2 else ():
            if reached.get(child) == "block" or kinds.get(child) == 2:
                raise Wrong("twice", child)
            if child not in reached:
                inode = told_inode(table, child)
                if inode is None:
                    raise Wrong("inode", child)
                reached[child], kinds[child] = "inode", inode[0]
                order.append(child)
            yield child, ("entry", key, name)


def certificate(blocks):
    table = dict(blocks)
    owners = {}
    try:
        for key, owner in visits(table):
            owners.setdefault(key, []).append(owner)
        for key in sorted(owners):
            if owners[key][0][0] == "entry":
                kind, _, links, _ = told_inode(table, key)
                if kind == 1 and links != len(owners[key]):
                    raise Wrong("links", key)
    except Wrong as wrong:
        return ("wrong", *wrong.args)
    return ("tree", tuple((key, min(owners[key])) for key in sorted(owners)),
            tuple(sorted(set(table) - set(owners))))


def bears(blocks):
    """Whether the keyed blocks bear a tree, as [13.1] says it."""
    table = dict(blocks)
    reached, coming = [], [0]
    owners = [0]
    while coming:
        key = coming.pop()
        if key in reached:
            continue
        inode = told_inode(table, key)
        if inode is None:
            return False
        reached.append(key)
        kind, size, _, keys = inode
        owners.extend(keys)
        if not set(keys) <= set(table):
            return False
        contents = [table[block] for block in keys]
        told = told_words(size, contents) if kind == 1 else told_entries(size, contents)
        if told is None:
            return False
        if kind == 2:
            coming.extend(child for _, child in told)
    if told_inode(table, 0)[0] != 2:
        return False
    leads = [child for key in reached if told_inode(table, key)[0] == 2
             for _, child in told_entries(told_inode(table, key)[1], [table[one] for one in told_inode(table, key)[3]])]
    for key in set(leads):
        kind, _, links, _ = told_inode(table, key)
        if kind == 1:
            if leads.count(key) != links:
                return False
            owners.append(key)
        else:
            owners.extend([key] * leads.count(key))
    return len(owners) == len(set(owners))
