"""What formulas tell of finite structures, and what they do not."""
