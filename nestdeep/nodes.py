"""The nodes of a body: its statements and the ends of its bodies, each with a number.

A NODE is a tuple (word, place, statement, behind, inner). The word is that of the statement, or
tells whose end this is; statement is None at an end. behind is the number of the node at which
the call goes on when the statement, or the body that ends, is done: of the loop itself at the end
of its body, None at the end of the function's. inner has the numbers at which the statement's
bodies begin.
"""

from nestdeep.functions import bodies_of

BODY_END = "body end"
END_WORDS = {"room": "room end", "either": "either end", "loop": "loop end"}


def _add_block(nodes, block, before, word, behind):
    """Add the nodes of a body whose places begin with before; the number of the first one."""
    following = len(nodes)
    nodes.append((word, (*before, len(block)), None, behind, ()))
    for at in range(len(block) - 1, -1, -1):
        statement = block[at]
        number = len(nodes)
        # The node is put in when the nodes of its bodies are known, which may need its number.
        nodes.append(())
        back = number if statement[0] == "loop" else following
        inner = []
        for side, body in enumerate(bodies_of(statement)):
            inner.append(_add_block(nodes, body, (*before, at, side), END_WORDS[statement[0]], back))
        nodes[number] = (statement[0], (*before, at), statement, following, tuple(inner))
        following = number
    return following


def nodes_of(body):
    """The list of the nodes of a function's body, and the number of the first one."""
    nodes = []
    first = _add_block(nodes, body, (), BODY_END, None)
    return nodes, first
