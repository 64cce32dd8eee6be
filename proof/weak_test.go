package proof

import (
	"bytes"
	"encoding/json"
	"math/rand"
	"os"
	"os/exec"
	"path/filepath"
	"strings"
	"testing"

	"almagest/account"
	"almagest/api"
	"almagest/sha"
	"almagest/tree"
)

// Nobody knows two rows of bytes of one SHA-256. So that there are clashes to be told, the
// tests below are built once more with this in the stead of package sha: of all rows there are
// but four digests.
const weakSha = `package sha

import (
	"bytes"
	"crypto/sha256"

	"almagest/api"
)

func Of(b []byte) api.Hash {
	strong := sha256.Sum256(b)
	return api.Hash(bytes.Repeat([]byte{1 + strong[0]%4}, 32))
}
`

// weakly names the variable by which the tests of weak digests are told that they are built so.
const weakly = "ALMAGEST_WEAK_DIGESTS"

// P16.3, P16.4: the tests of weak digests, built and run by the go command.
func TestClashFound(t *testing.T) {
	if testing.Short() {
		t.Skip("builds the package anew")
	}
	if os.Getenv(weakly) != "" {
		t.Skip("built so already")
	}
	if _, err := exec.LookPath("go"); err != nil {
		t.Skip("there is no go command")
	}
	here, err := os.Getwd()
	if err != nil {
		t.Fatal(err)
	}
	folder := t.TempDir()
	weak, overlay := filepath.Join(folder, "sha.go"), filepath.Join(folder, "overlay.json")
	told, err := json.Marshal(map[string]any{
		"Replace": map[string]string{filepath.Join(here, "..", "sha", "sha.go"): weak},
	})
	if err != nil {
		t.Fatal(err)
	}
	for name, text := range map[string]string{weak: weakSha, overlay: string(told)} {
		if err := os.WriteFile(name, []byte(text), 0o600); err != nil {
			t.Fatal(err)
		}
	}
	run := exec.Command("go", "test", "-overlay="+overlay, "-vet=off", "-count=1", "-v", "-run=^TestWeak", ".")
	run.Env = append(os.Environ(), weakly+"=1")
	out, err := run.CombinedOutput()
	if many := strings.Count(string(out), "--- PASS: TestWeak"); err != nil || many != 4 {
		t.Errorf("%d passed, %v:\n%s", many, err, out)
	}
}

// needWeak skips a test that is of weak digests, where they aren't.
func needWeak(t *testing.T) {
	t.Helper()
	if os.Getenv(weakly) == "" {
		t.Skip("TestClashFound runs it")
	}
	seen := map[api.Hash]int{}
	for n := range 256 {
		seen[sha.Of([]byte{byte(n)})]++
	}
	if len(seen) != 4 {
		t.Fatalf("there are %d digests", len(seen))
	}
}

// images tells by the chapter's words all that is digested on a claim's way, the account's
// image first.
func images(place int, c Claim) [5][]byte {
	var all [5][]byte
	written, failed := account.Bytes(c.Account)
	if failed != api.OK {
		panic(c.Account.Name)
	}
	all[0] = imaged("account", written)
	side := sides(place)
	for height := 1; height <= 4; height++ {
		pair := [2]api.Hash{c.Path[height-1], c.Path[height-1]}
		pair[side[height-1]] = sha.Of(all[height-1])
		all[height] = imaged("node", []byte{byte(height)}, pair[0][:], pair[1][:])
	}
	return all
}

// holdClash holds what is told of two claims of accounts that may be, at a place that there
// is, against the chapter's words; it tells at which height they clash, 0 of the accounts, or
// why they don't.
func holdClash(t *testing.T, place int, a, b Claim) string {
	t.Helper()
	x, y := images(place, a), images(place, b)
	if sha.Of(x[4]) != sha.Of(y[4]) {
		holdNoClash(t, place, a, b)
		return "elsewhere"
	}
	if a.Account == b.Account {
		holdNoClash(t, place, a, b)
		return "one account"
	}
	height := 0
	for bytes.Equal(x[height], y[height]) || sha.Of(x[height]) != sha.Of(y[height]) {
		height++
	}
	for _, turned := range []bool{false, true} {
		if turned {
			a, b, x, y = b, a, y, x
		}
		one, other, is := Clash(place, a, b)
		if !bytes.Equal(one, x[height]) || !bytes.Equal(other, y[height]) || !is {
			t.Errorf("place %d, %v, %v: %x, %x, %t; want %x, %x", place, a, b, one, other, is, x[height], y[height])
		}
		if bytes.Equal(one, other) || sha.Of(one) != sha.Of(other) {
			t.Errorf("place %d: %x and %x don't clash", place, one, other)
		}
	}
	return string(rune('0' + height))
}

// weakPath tells a path of chance, of digests that there are, mostly.
func weakPath(r *rand.Rand) tree.Path {
	var p tree.Path
	for height := range p {
		p[height] = sha.Of([]byte{byte(r.Intn(256))})
		if r.Intn(8) == 0 {
			p[height] = digest(r)
		}
	}
	return p
}

// P16.3: claims of chance at each place, by unlike paths and by like ones.
func TestWeakChance(t *testing.T) {
	needWeak(t)
	r := rand.New(rand.NewSource(172))
	for place := range 16 {
		met := map[string]int{}
		for range 4000 {
			a, b := Claim{someone(r), weakPath(r)}, Claim{someone(r), weakPath(r)}
			switch r.Intn(4) {
			case 0:
				b.Path = a.Path
			case 1:
				height := r.Intn(4)
				copy(b.Path[height:], a.Path[height:])
			case 2:
				b.Account = a.Account
			}
			met[holdClash(t, place, a, b)]++
		}
		for _, kind := range []string{"0", "1", "2", "3", "4", "one account", "elsewhere"} {
			if met[kind] < 20 {
				t.Errorf("place %d: %s is rare: %v", place, kind, met)
			}
		}
	}
}

// P16.4: of trees: another account that is right at a place and root, by whatever path, and
// the one that stands there: a clash is told.
func TestWeakTrees(t *testing.T) {
	needWeak(t)
	r := rand.New(rand.NewSource(173))
	met := map[string]int{}
	for range 100 {
		l := chance(r, 12)
		x := l.tree()
		for place, a := range l {
			if a.Name == "" {
				continue
			}
			holdCheck(t, x.Root(), place, a, way(x, place), api.OK)
			for range 20 {
				other := Claim{someone(r), weakPath(r)}
				if r.Intn(2) == 0 {
					other.Path = way(x, place)
				}
				_, _, is := Clash(place, at(x, place), other)
				right := Check(x.Root(), place, other.Account, other.Path) == api.OK
				if is != (right && other.Account != a) {
					t.Errorf("place %d, %v: clash %t, right %t", place, other, is, right)
				}
				met[holdClash(t, place, at(x, place), other)]++
			}
		}
	}
	for _, kind := range []string{"0", "1", "2", "3", "4", "elsewhere"} {
		if met[kind] < 100 {
			t.Errorf("%s is rare: %v", kind, met)
		}
	}
}

// P16.3, R2: claims of accounts that may not be, or at places that there aren't, though their
// digests may be the same.
func TestWeakErrors(t *testing.T) {
	needWeak(t)
	r := rand.New(rand.NewSource(174))
	for range 400 {
		p := weakPath(r)
		a, b := Claim{someone(r), p}, Claim{someone(r), p}
		for _, place := range beyond {
			holdNoClash(t, place, a, b)
			holdNoClash(t, place, a, Claim{wrong[1], p})
		}
		place := r.Intn(16)
		for _, other := range wrong {
			holdNoClash(t, place, a, Claim{other, weakPath(r)})
			holdNoClash(t, place, Claim{other, p}, Claim{wrong[r.Intn(len(wrong))], p})
		}
	}
}

// P16.3, R3, R4: the two rows share nothing with one another, and stay out of what is told
// again.
func TestWeakAgain(t *testing.T) {
	needWeak(t)
	r := rand.New(rand.NewSource(175))
	met := map[string]int{}
	for range 4000 {
		place := r.Intn(16)
		a, b := Claim{someone(r), weakPath(r)}, Claim{someone(r), weakPath(r)}
		one, other, is := Clash(place, a, b)
		if !is {
			continue
		}
		kept := bytes.Clone(other)
		for at := range one[:cap(one)] {
			one[:cap(one)][at] ^= 255
		}
		if !bytes.Equal(other, kept) {
			t.Errorf("place %d, %v, %v: the rows share bytes", place, a, b)
		}
		met[holdClash(t, place, a, b)]++
	}
	if met["0"] < 100 || met["4"] < 100 || met["elsewhere"] > 0 {
		t.Errorf("one kind is rare: %v", met)
	}
}
