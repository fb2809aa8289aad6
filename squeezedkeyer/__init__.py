"""What a keyer with two levers sends."""
