package engine

import (
	"dromond/api"
	"dromond/gcm"
	"dromond/hmac"
)

// realCore signs and seals with the algorithms of the layers 6 and 8. It keeps nothing.
type realCore struct{}

// sign returns the code of the text.
func (realCore) sign(variant int, key, text string) string {
	return hmac.Sum(codeSize(variant), key, text)
}

// holds reports whether tag is the code of the text. Same takes as long for any wrong tag, so that nobody learns from
// the time how much of a tag is right.
func (r realCore) holds(variant int, key, text, tag string) bool {
	return hmac.Same(tag, r.sign(variant, key, text))
}

// seal seals the text. The variant is in the size of the key.
func (realCore) seal(_ int, key, nonce, with, text string) (string, string, api.Errno) {
	return gcm.Seal(key, nonce, with, text)
}

// open opens the text.
func (realCore) open(_ int, key, nonce, with, text, tag string) (string, api.Errno) {
	return gcm.Open(key, nonce, with, text, tag)
}

// entries returns 0: there is no table.
func (realCore) entries() int {
	return 0
}
