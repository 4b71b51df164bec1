"""stillranges: a bounds checker that never widens."""
