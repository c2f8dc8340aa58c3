"""Objects of cellular automata: what becomes of a pattern, for ever, and what it's called."""
