"""Rollcode: a door and a far button with codes that go on."""
