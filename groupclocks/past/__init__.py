"""What is always or never before an action, and what comes of taking actions out."""
