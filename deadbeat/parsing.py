"""From texts to programs and expressions."""

from deadbeat.errors import TextError
from deadbeat.tokens import tokenize
from deadbeat.trees import tightness
from deadbeat.words import GREATEST_WORD

UNARY_KINDS = {"-": "neg", "~": "inv", "!": "not"}
STATEMENT_WORDS = ("write", "if", "loop")
MOST_NESTED = 12
MOST_BLOCKS = 8
MOST_CELLS = 64
MOST_ROUNDS = 64
LONGEST_TIME = 4194304


def parse_program(text):
    """The program of a text."""
    parser = Parser(tokenize(text))
    program = parser.whole()
    parser.finish()
    return program


def parse_expression(text):
    """The expression of a text that consists of one expression."""
    parser = Parser(tokenize(text))
    e = parser.expression()
    parser.finish()
    return e


class Reader:
    """Tokens that are read from left to right.

    An error has the line of the next token, so a token is judged before it is read.
    """

    def __init__(self, tokens):
        self.tokens = tokens
        self.place = 0
        self.nested = 0
        self.blocks = 0

    def kind(self):
        """The kind of the next token."""
        return self.tokens[self.place][0]

    def value(self):
        """The value of the next token."""
        return self.tokens[self.place][1]

    def second(self):
        """The value of the token behind the next one, which is not the last."""
        return self.tokens[self.place + 1][1]

    def refuse(self):
        """Says that the text breaks the grammar or a limit at the next token."""
        raise TextError(self.tokens[self.place][2])

    def take(self):
        """The value of the next token, which is read."""
        value = self.value()
        self.place += 1
        return value

    def expect(self, value):
        """Reads the next token, which must have this value."""
        if self.value() != value:
            self.refuse()
        self.place += 1

    def skip(self, value):
        """Reads the next token if it has this value, and tells whether it has."""
        if self.value() != value:
            return False
        self.place += 1
        return True

    def finish(self):
        """Accepts nothing but the end of the text."""
        if self.kind() != "end":
            self.refuse()

    def name(self):
        """Reads a name."""
        if self.kind() != "name":
            self.refuse()
        return self.take()

    def number(self, low, high):
        """Reads a number from low to high."""
        if self.kind() != "number" or not low <= self.value() <= high:
            self.refuse()
        return self.take()

    def nest(self, value):
        """Reads a parenthesis, a bracket or a unary operator, which is open from here on."""
        if self.value() != value or self.nested == MOST_NESTED:
            self.refuse()
        self.nested += 1
        self.place += 1

    def unnest(self, value):
        """Reads the closing parenthesis or bracket."""
        self.expect(value)
        self.nested -= 1


class Parser(Reader):
    """Reads the parts of the grammar."""

    def expression(self):
        """Reads an expression.

        A chain of operators is read in a loop, since it may be longer than Python can recurse.
        """
        operands = [self.unary()]
        operators = []
        while True:
            binding = tightness(self.value())
            while operators and tightness(operators[-1]) >= binding:
                right = operands.pop()
                left = operands.pop()
                operands.append((operators.pop(), left, right))
            if binding == 0:
                return operands[0]
            operators.append(self.take())
            operands.append(self.unary())

    def unary(self):
        """Reads a number, a cell, an expression in parentheses, or a unary operator and its operand."""
        value = self.value()
        if value in UNARY_KINDS:
            self.nest(value)
            operand = self.unary()
            self.nested -= 1
            return (UNARY_KINDS[value], operand)
        if value == "(":
            return self.enclosed("(", ")")
        if self.kind() == "number":
            return ("num", self.take())
        return self.cell()

    def enclosed(self, first, last):
        """Reads an expression in parentheses or brackets."""
        self.nest(first)
        e = self.expression()
        self.unnest(last)
        return e

    def cell(self):
        """Reads a single cell or an array cell."""
        name = self.name()
        if self.value() == "[":
            return ("at", name, self.enclosed("[", "]"))
        return ("cell", name)

    def listed(self, wanted):
        """Reads names, words or expressions with commas between them, up to the closing parenthesis."""
        if self.value() == ")":
            return []
        found = [self.part(wanted)]
        while self.skip(","):
            found.append(self.part(wanted))
        return found

    def part(self, wanted):
        """Reads a name, a word or an expression."""
        if wanted == "name":
            return self.name()
        if wanted == "word":
            return self.number(0, GREATEST_WORD)
        return self.expression()

    def statements(self):
        """Reads statements as long as there are any."""
        body = []
        while self.kind() == "name" or self.value() in STATEMENT_WORDS:
            body.append(self.statement())
        return body

    def statement(self):
        """Reads a statement."""
        word = self.value()
        if word == "if":
            return self.choice()
        if word == "loop":
            return self.rounds()
        if word == "write":
            return self.writing()
        if self.second() == ".":
            return self.call(None)
        return self.storing()

    def storing(self):
        """Reads a statement that begins with a target."""
        target = self.cell()
        self.expect(":=")
        if self.skip("read"):
            port = self.name()
            self.expect(";")
            return ("read", target, port)
        if self.kind() == "name" and self.second() == ".":
            return self.call(target)
        e = self.expression()
        self.expect(";")
        return ("set", target, e)

    def writing(self):
        """Reads the writing of a word to a port."""
        self.expect("write")
        port = self.name()
        e = self.expression()
        self.expect(";")
        return ("write", port, e)

    def call(self, target):
        """Reads a call whose result goes to the target, or nowhere if it is None."""
        thing, operation = self.callee()
        self.nest("(")
        given = self.listed("expression")
        self.unnest(")")
        self.expect(";")
        return ("call", target, thing, operation, given)

    def callee(self):
        """Reads the names of an object and its operation."""
        thing = self.name()
        self.expect(".")
        return thing, self.name()

    def choice(self):
        """Reads an if."""
        self.begin_block("if")
        e = self.expression()
        then = self.statements()
        other = []
        if self.skip("else"):
            other = self.statements()
        self.end_block()
        return ("if", e, then, other)

    def rounds(self):
        """Reads a loop."""
        self.begin_block("loop")
        name = self.name()
        self.expect("to")
        count = self.number(1, MOST_ROUNDS)
        e = None
        if self.skip("while"):
            e = self.expression()
        body = self.statements()
        self.end_block()
        return ("loop", name, count, e, body)

    def begin_block(self, word):
        """Reads the word that opens an if or a loop."""
        if self.blocks == MOST_BLOCKS:
            self.refuse()
        self.expect(word)
        self.blocks += 1

    def end_block(self):
        """Reads the end of an if or a loop."""
        self.expect("end")
        self.blocks -= 1

    def whole(self):
        """Reads a whole program."""
        self.expect("system")
        name = self.name()
        ports = []
        while self.value() in ("in", "out"):
            ports.append((self.take(), self.name()))
        objects = []
        while self.skip("object"):
            objects.append(self.shared())
        tasks = []
        while self.skip("task"):
            tasks.append(self.task())
        interrupts = []
        while self.skip("interrupt"):
            interrupts.append(self.interrupt())
        return ("system", name, ports, objects, tasks, interrupts)

    def shared(self):
        """Reads what follows the word object."""
        name = self.name()
        fields = self.cells()
        operations = []
        while self.skip("operation"):
            operations.append(self.operation())
        self.expect("end")
        return ("object", name, fields, operations)

    def cells(self):
        """Reads the declarations of cells."""
        found = []
        while self.skip("cell"):
            found.append((self.name(), self.cell_size()))
        return found

    def cell_size(self):
        """Reads the size of an array, or gives 0 for a single cell."""
        if not self.skip("["):
            return 0
        many = self.number(1, MOST_CELLS)
        self.expect("]")
        return many

    def operation(self):
        """Reads what follows the word operation."""
        name = self.name()
        self.expect("(")
        params = self.listed("name")
        self.expect(")")
        cells = self.cells()
        body = self.statements()
        result = None
        if self.skip("give"):
            result = self.expression()
            self.expect(";")
        self.expect("end")
        return ("operation", name, params, cells, body, result)

    def task(self):
        """Reads what follows the word task."""
        name = self.name()
        every, within = self.times()
        cells = self.cells()
        body = self.statements()
        self.expect("end")
        return ("task", name, every, within, cells, body)

    def interrupt(self):
        """Reads what follows the word interrupt."""
        name = self.name()
        every, within = self.times()
        self.expect("calls")
        thing, operation = self.callee()
        self.expect("(")
        given = self.listed("word")
        self.expect(")")
        return ("interrupt", name, every, within, thing, operation, given)

    def times(self):
        """Reads the time between releases and the deadline."""
        self.expect("every")
        every = self.number(1, LONGEST_TIME)
        self.expect("within")
        return every, self.number(1, LONGEST_TIME)
