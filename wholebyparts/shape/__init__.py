"""Rules, shapes, and the wholes that they make of parts."""
