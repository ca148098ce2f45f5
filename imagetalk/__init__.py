"""A language of objects and messages, worked in two ways, and its image."""
