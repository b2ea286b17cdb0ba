"""Jughouse: water poured from jug to jug, the fewest pours, and what shows that fewer won't do."""
