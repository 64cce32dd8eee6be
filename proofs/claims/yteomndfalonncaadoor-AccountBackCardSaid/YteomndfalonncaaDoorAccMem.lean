/-
  Accounts as cells; a text as bytes, bytes as a text, a text that is ranged over, as operations of the walk. Over this seat's translation.
-/
import Derived.Test.YteomndfalonncaaDoorAccSpec
import Derived.Test.YteomndfalonncaaDoorEpoAll
import Derived.Test.YteomndfalonncaaDoorFitAll
import Derived.Test.YteomndfalonncaaDoorMemAll
import Derived.Test.YteomndfalonncaaDoorWireAll
import Derived.Laws.IdiomStrings
import Derived.Laws.RangeString
import Derived.Laws.RangeAny
import Derived.Lib.OthersKept
namespace Go.Proofs.YteomndfalonncaaDoor.Ac
open Go.ChangeShapes Go.WideShapes Go.ChangeAt Go.RowKit Go.Proofs.YteomndfalonncaaDoor.Mem Go.Proofs.YteomndfalonncaaDoor.Bt Go.Proofs.YteomndfalonncaaDoor.Wi
open Go.Proofs.YteomndfalonncaaDoor.Tg (bytesOf bytesOf_length bytesOf_lt bytesOf_inj Rd Rd.below)
set_option linter.unusedVariables false
set_option linter.unusedSimpArgs false

section
variable {P : Program} {ops : Array Oper} {rest : List Oper} {o : Oper} {a : Act} {w : World} {Q : Exit → Act → World → Prop} {md : Region.Mode} {S S' : World → Prop} {fuel : Nat} {listed : Array Bool}
/-- More is kept than was asked for. -/
theorem h_more (hSS : ∀ w, S' w → S w) : ∀ (fuel : Nat) (listed : Array Bool) (a : Act) (w : World), wpAnyH P md ops Q S' fuel listed a w → wpAnyH P md ops Q S fuel listed a w
  | 0, _, _, _, h => h
  | fuel + 1, _, _, _, h => ⟨h.1, fun i hi => wpOp_mono (fun a' w' h' => ⟨hSS _ h'.1, h_more hSS fuel _ a' w' h'.2⟩) (h.2 i hi)⟩
/-- 'range s' over a text: its iterator lies in a block of its own. -/
theorem arm_range (hgd : o.guard = none) (t : TypeId) (x : Operand) (ho : o.op = .range t x) (s : ByteArray) (hx : a.eval x = .string s) (hu : P.underlying t = some .string)
    (h : ∀ I w2, Hid (I = w.heap.size) → w2.heap[I]? = some (.stringIter s 0) → New w w2 → wpList P ops Q rest (a.put o.dst (.pointer (some ⟨I, 0, none⟩))) w2) : wpList P ops Q (o :: rest) a w := by
  refine wpList_plain hgd fun K hK => ?_
  unfold Oper.wp execOp
  simp only [ho, hx, Sem.run_bind, run_range_string w t s hu, Result.andThen_ok, Sem.run_pure]
  exact hK _ _ (h _ _ rfl (World.iter_heap w s 0) (new_alloc _ _))
theorem byte_at (s : ByteArray) (j : Nat) (hj : j < s.size) : (bytesOf s)[j]? = some (s[j]'hj).toNat := by
  have hj2 : j < s.data.toList.length := by simpa using hj
  unfold bytesOf
  rw [List.getElem?_map, List.getElem?_eq_getElem hj2]
  rfl
theorem byte_getD (s : ByteArray) (j : Nat) (hj : j < s.size) : (bytesOf s).getD j 0 = (s[j]'hj).toNat := by
  rw [List.getD_eq_getElem?_getD, byte_at s j hj]
  rfl
/-- '[]byte(s)'. -/
theorem arm_strBytes (hgd : o.guard = none) (src dst e : TypeId) (x : Operand) (ho : o.op = .convert src dst x) (s : ByteArray) (hx : a.eval x = .string s) (hs : P.underlying src = some .string) (hd : P.underlying dst = some (.slice e)) (he : P.underlying e = some (.int .u8))
    (h : ∀ b cap w2, Hid (b = w.heap.size) → w2.rangeAt b 0 (u8s (bytesOf s)) → New w w2 → wpList P ops Q rest (a.put o.dst (.slice (some ⟨b, 0, none⟩) s.size cap)) w2) : wpList P ops Q (o :: rest) a w := by
  refine wpList_plain hgd fun K hK => ?_
  unfold Oper.wp execOp
  simp only [ho, hx, Sem.run_bind, run_bytes_of_string w src dst e s hs hd he, Result.andThen_ok, Sem.run_pure]
  refine hK _ _ (h _ _ _ rfl (fun j v hj => ?_) ⟨((Below.refl w.heap.size w).drew).trans (new_alloc w.drew _).below, (new_alloc w.drew _).size⟩)
  rw [Nat.zero_add]
  have hj2 := (List.getElem?_eq_some_iff.1 hj).1
  rw [u8s_length, bytesOf_length] at hj2
  have hc := World.cell?_alloc_mark w.drew (bytesRow s (grownCap w s.size 0 e)) e ((bytesRow s (grownCap w s.size 0 e)).size, (bytesRow s (grownCap w s.size 0 e)).size + 1) j
  refine Eq.trans hc ?_
  rw [bytesRow_at s _ j hj2, ← hj, u8s_get (by rw [bytesOf_length]; exact hj2), byte_getD s j hj2]
  rfl
/-- 'string(b)' of bytes that can be read. -/
theorem run_op_toStr (src dst e : TypeId) (x : Operand) (ho : o.op = .convert src dst x) (hs : P.underlying src = some (.slice e)) (he : P.underlying e = some (.int .u8)) (hd : P.underlying dst = some .string)
    (p : Option Addr) (n cap : Nat) (bs : List Nat) (hx : a.eval x = .slice p n cap) (hn : n = bs.length) (hr : bs ≠ [] → ∃ g o, p = some ⟨g, o, none⟩ ∧ w.rangeAt g o (u8s bs)) (hlt : AllLt 256 bs) : (execOp a.eval o).run P w = .ok (.value (.string (strOf bs))) w := by
  subst hn
  have hc : (convert src dst (.slice p bs.length cap)).run P w = .ok (.string (strOf bs)) w := by
    cases p with
    | none =>
      have hb : bs = [] := by
        rcases Classical.em (bs = []) with h | h
        · exact h
        · obtain ⟨g, o, e, _⟩ := hr h; cases e
      subst hb
      rw [run_convert_bytes_string w src dst e none _ cap hs he hd]
      simp [Conv.bytesToString, strOf]
      rfl
    | some ad =>
      have h := run_convert_bytes_back (P := P) w src dst e ad cap (bs.map UInt8.ofNat) hs he hd (fun j hj => by
        rw [List.length_map] at hj
        obtain ⟨g, o, e, hg⟩ := hr (by intro h; rw [h] at hj; simp at hj)
        rw [Option.some.inj e, Addr.add_mid, hg j _ (u8s_get hj)]
        have hb := hlt (bs[j]) (List.getElem_mem hj)
        rw [List.getElem_map, List.getD_eq_getElem?_getD, List.getElem?_eq_getElem hj]
        simp [UInt8.toNat_ofNat']
        omega)
      rw [List.length_map] at h
      exact h
  unfold execOp
  simp only [ho, hx, Sem.run_bind, hc, Result.andThen_ok, Sem.run_pure]
/-- 's[i]' of a text, run. -/
theorem run_op_indexS (t : TypeId) (x ix : Operand) (ho : o.op = .index t x ix) (hu : P.underlying t = some .string) (s : ByteArray) (hx : a.eval x = .string s) (k : IntKind) (i : Nat) (hi : a.eval ix = .int k (i : Int)) (hin : i < s.size) (n : Nat) (hn : (bytesOf s).getD i 0 = n) (w : World) :
    (execOp a.eval o).run P w = .ok (.value (.int .u8 (n : Int))) w := by
  subst hn
  have hr : (Instr.index t (.string s) (.int k (i : Int))).run P w = .ok (.int .u8 (((bytesOf s).getD i 0 : Nat) : Int)) w := by
    rw [byte_getD s i hin]
    have hg : s.get! i = s[i]'hin := by
      have := get_at s i hin
      rwa [Nat.add_zero] at this
    simp [Instr.index, asIntOf, run_underlying hu, hin, hg]
  unfold execOp
  simp only [ho, hx, hi, Sem.run_bind, hr, Result.andThen_ok, Sem.run_pure]
/-- 's[i]' of a text. -/
theorem arm_indexS (hgd : o.guard = none) (t : TypeId) (x ix : Operand) (ho : o.op = .index t x ix) (hu : P.underlying t = some .string) (s : ByteArray) (hx : a.eval x = .string s) (k : IntKind) (i : Nat) (hi : a.eval ix = .int k (i : Int)) (hin : i < s.size) (n : Nat) (hn : (bytesOf s).getD i 0 = n)
    (h : wpList P ops Q rest (a.put o.dst (.int .u8 (n : Int))) w) : wpList P ops Q (o :: rest) a w := by
  refine wpList_plain hgd fun K hK => ?_
  unfold Oper.wp
  rw [run_op_indexS t x ix ho hu s hx k i hi hin n hn w]
  exact hK _ _ h
end
section
variable {s : ByteArray} {pos : Nat}
/-- A byte that is no text of its own comes as a letter behind z. -/
theorem high_far (h : pos < s.size) (ha : 128 ≤ (bytesOf s).getD pos 0) : 128 ≤ (Utf8.decode s pos).1 := by
  rw [byte_getD s pos h] at ha
  exact (decode_high s pos h ha).1
theorem lets_all (h : ∀ j, j < s.size → 97 ≤ (bytesOf s).getD j 0 ∧ (bytesOf s).getD j 0 ≤ 122) : Lets (bytesOf s) := fun x hx => by
  obtain ⟨j, hj, rfl⟩ := List.getElem_of_mem hx
  have hj2 := hj
  rw [bytesOf_length] at hj2
  have := h j hj2
  rwa [List.getD_eq_getElem?_getD, List.getElem?_eq_getElem hj] at this
theorem lets_at (h : Lets (bytesOf s)) {j : Nat} (hj : j < s.size) : 97 ≤ (bytesOf s).getD j 0 ∧ (bytesOf s).getD j 0 ≤ 122 := by
  have hj2 : j < (bytesOf s).length := by rw [bytesOf_length]; exact hj
  rw [List.getD_eq_getElem?_getD, List.getElem?_eq_getElem hj2]
  exact h _ (List.getElem_mem hj2)
end
/-! ### Accounts as cells -/
theorem z_acc : Mem.Zero Tryd.prog 25 (acs za) := by unfold Mem.Zero; kernel_rfl
theorem z_racc : Mem.Zero Tryd.prog 28 (acs za) := by unfold Mem.Zero; kernel_rfl
theorem sz_acc (a : Acct) : Sized Tryd.prog 25 (acs a).length := ⟨.struct (Tryd.prog.fieldsOf 25), by kernel_rfl, rfl, by rw [acs_len]; kernel_rfl⟩
theorem sz_racc (a : Acct) : Sized Tryd.prog 28 (acs a).length := ⟨.struct (Tryd.prog.fieldsOf 28), by kernel_rfl, rfl, by rw [acs_len]; kernel_rfl⟩
theorem fitA (a : Acct) : 0 + (acs a).length ≤ (acs za).length := by rw [acs_len, acs_len]; omega
theorem allA (a : Acct) : lay (acs za) 0 (acs a) = acs a := lay_all _ _ rfl
theorem acs_no (a : Acct) : ∀ (i : Nat) (n : Int), (acs a)[i]? ≠ some (.int .u8 n) := by
  intro i n
  match i with
  | 0 => simp [acs]
  | 1 => simp [acs]
  | 2 => simp [acs]
  | i + 3 => simp [acs]
theorem built_za : Tryd.prog.built 25 [] = some (acs za).toArray := by kernel_rfl
theorem built_rza : Tryd.prog.built 28 [] = some (acs za).toArray := by kernel_rfl
theorem built_acc (s : ByteArray) (x y : Nat) : Tryd.prog.built 25 [(0, .string s), (1, .int .u64 (x : Int)), (2, .int .u32 (y : Int))] = some (acs ⟨s, x, y⟩).toArray := by kernel_rfl
theorem fit_acc (d : Nat) (a : Acct) : Fit Tryd.prog (d + 2) 25 (acs a) := by
  refine fit_struct [(9, 0), (22, 1), (23, 2)] (by kernel_rfl) (by kernel_rfl) (by kernel_rfl) (n := 3) (by kernel_rfl) rfl ?_
  intro p hp
  simp only [List.mem_cons, List.not_mem_nil, or_false] at hp
  rcases hp with rfl | rfl | rfl
  · rw [show Tryd.prog.cellsOf 9 = 1 by kernel_rfl]; exact fit_string (by kernel_rfl) _
  · rw [show Tryd.prog.cellsOf 22 = 1 by kernel_rfl]; exact fit_int (by kernel_rfl) _
  · rw [show Tryd.prog.cellsOf 23 = 1 by kernel_rfl]; exact fit_int (by kernel_rfl) _
theorem fit_racc (d : Nat) (a : Acct) : Fit Tryd.prog (d + 2) 28 (acs a) := by
  refine fit_struct [(9, 0), (22, 1), (23, 2)] (by kernel_rfl) (by kernel_rfl) (by kernel_rfl) (n := 3) (by kernel_rfl) rfl ?_
  intro p hp
  simp only [List.mem_cons, List.not_mem_nil, or_false] at hp
  rcases hp with rfl | rfl | rfl
  · rw [show Tryd.prog.cellsOf 9 = 1 by kernel_rfl]; exact fit_string (by kernel_rfl) _
  · rw [show Tryd.prog.cellsOf 22 = 1 by kernel_rfl]; exact fit_int (by kernel_rfl) _
  · rw [show Tryd.prog.cellsOf 23 = 1 by kernel_rfl]; exact fit_int (by kernel_rfl) _
section
variable {o : Oper} {a : Act}
theorem run_op_eqlA (x y : Operand) (t' : TypeId) (ho : o.op = .binOp .eql 25 x y t') (c d : Acct) (hx : a.eval x = .agg (acs c).toArray) (hy : a.eval y = .agg (acs d).toArray) (b : Bool) (hb : b = true ↔ c = d) (w : World) : (execOp a.eval o).run Tryd.prog w = .ok (.value (.bool b)) w :=
  run_op_eqlF _ x y t' ho 2 (by decide) (.struct (Tryd.prog.fieldsOf 25)) (by kernel_rfl) rfl (by kernel_rfl) (acs c) (acs d) hx hy (fit_acc 0 c) (fit_acc 0 d) b (hb.trans acs_iff.symm) w
theorem run_op_eqlRA (x y : Operand) (t' : TypeId) (ho : o.op = .binOp .eql 28 x y t') (c d : Acct) (hx : a.eval x = .agg (acs c).toArray) (hy : a.eval y = .agg (acs d).toArray) (b : Bool) (hb : b = true ↔ c = d) (w : World) : (execOp a.eval o).run Tryd.prog w = .ok (.value (.bool b)) w :=
  run_op_eqlF _ x y t' ho 2 (by decide) (.struct (Tryd.prog.fieldsOf 28)) (by kernel_rfl) rfl (by kernel_rfl) (acs c) (acs d) hx hy (fit_racc 0 c) (fit_racc 0 d) b (hb.trans acs_iff.symm) w
end
end Go.Proofs.YteomndfalonncaaDoor.Ac
