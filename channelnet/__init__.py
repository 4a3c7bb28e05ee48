"""A net of channels: what is let in at a source, and what becomes of it on its way down."""
