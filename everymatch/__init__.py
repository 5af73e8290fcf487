"""everymatch: sayings about nodes, answered for ever in a document that is edited."""
