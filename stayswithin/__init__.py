"""Whether a machine can be kept within limits for ever, with papers."""
