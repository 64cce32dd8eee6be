/-
  A cache of verdicts, the program's and the document's, acts, and slices of digests, as cells and maps: what stands where. Over this seat's translation.
-/
import Derived.Test.YtbpghogdjpobnaaVerSpec
import Derived.Test.YtbpghogdjpobnaaHashKey
import Derived.Test.YtbpghogdjpobnaaFoot
import Derived.Test.YtbpghogdjpobnaaSlisAll
import Derived.Test.YtbpghogdjpobnaaEpoAll
import Derived.Test.YtbpghogdjpobnaaMemAll
import Derived.Test.YtbpghogdjpobnaaReadHash
import Derived.Test.YtbpghogdjpobnaaFitAll
import Derived.Deep.Strs
namespace Go.Proofs.Ytbpghogdjpobnaa.Vd
open Go.ChangeShapes Go.WideShapes Go.ChangeAt Go.RowKit Go.Proofs.Ytbpghogdjpobnaa.Mem Go.Proofs.Ytbpghogdjpobnaa.Bt Go.Proofs.Ytbpghogdjpobnaa.Km
open Go.Proofs.Ytbpghogdjpobnaa.Ep (H32 zh zh_ok Has h_len szH zH fitH allH one_app)
open Go.Proofs.Ytbpghogdjpobnaa.Sl (Kind Own At bk)
set_option linter.unusedVariables false
set_option linter.unusedSimpArgs false

abbrev kH : Kind (List Nat) := ⟨u8s, H32, zh, 32, 32, 44, 32⟩
theorem fH : kH.Fit Try.prog where
  len := fun x h => h_len h
  one := fun x => u8s_one x
  zok := zh_ok
  pos := by decide
  small := by decide
  bsmall := by decide
  und := by kernel_rfl
  row := ⟨.array 32 5, by kernel_rfl, rfl⟩
  info := by kernel_rfl
instance : Inhabited (List Nat × Bool) := ⟨([], false)⟩
def boolV (b : Bool) : Value := .agg #[.bool b]
abbrev VMap (w : World) (m : Nat) (L : VL) : Prop := KMap w m hashV boolV hashOk L
theorem look_get : ∀ (L : VL) (h : List Nat), Km.look L h = getV L h
  | [], h => rfl
  | p :: L, h => by
    unfold Km.look getV
    rw [List.find?_cons]
    by_cases e : p.1 = h
    · rw [decide_eq_true e, if_pos e]; rfl
    · rw [decide_eq_false e, if_neg e]; exact look_get L h
theorem put_old {L : VL} {h : List Nat} (b : Bool) (hi : h ∈ keys L) : putK L h b = setV L h b := by
  unfold putK
  rw [look_get, if_pos (get_in.2 hi)]
  unfold setV
  refine List.map_congr_left fun p _ => ?_
  split
  · rename_i e; rw [e]
  · rfl
theorem put_new {L : VL} {h : List Nat} (b : Bool) (hn : h ∉ keys L) : putK L h b = L ++ [(h, b)] := by
  unfold putK
  rw [look_get, get_none hn]
  rfl
theorem del_head {p : List Nat × Bool} {L : VL} (hn : (keys (p :: L)).Nodup) : delK (p :: L) p.1 = L := by
  have h1 : p.1 ∉ keys L := (List.nodup_cons.1 (show (p.1 :: keys L).Nodup from hn)).1
  unfold delK
  rw [List.filter_cons_of_neg (by simp)]
  exact List.filter_eq_self.2 fun q hq => by
    have : q.1 ≠ p.1 := fun e => h1 (e ▸ List.mem_map.2 ⟨q, hq, rfl⟩)
    simpa using this
theorem und_vm : Try.prog.underlying 49 = some (.map 32 53) := by kernel_rfl
theorem zero_v (w : World) : (zeroValue 53).run Try.prog w = .ok (boolV false) w := by kernel_rfl
theorem lookV (L : VL) (h : List Nat) : (if true then Value.tuple #[((Km.look L h).map boolV).getD (boolV false), .bool (Km.look L h).isSome] else ((Km.look L h).map boolV).getD (boolV false)) = .tuple #[boolV ((getV L h).getD false), .bool (getV L h).isSome] := by
  rw [if_pos rfl, look_get]
  cases getV L h <;> rfl
theorem gone_ok {r : Nat} {L : VL} (k : VOk r L) (h : List Nat) : H32 (goneV r L h) := by
  unfold goneV
  split
  · cases L with
    | nil => exact zh_ok
    | cons q M => exact k.ok q.1 (by simp [keys])
  · exact zh_ok
def ccs (r mb : Nat) (p : Option Addr) (n cap : Nat) : List Value := [.int .i64 (r : Int), .map (some mb), .slice p n cap]
structure CAt (w : World) (F : Nat → Prop) (B r : Nat) (L : VL) : Prop where
  ex : ∃ mb p cap, Row w B 51 (ccs r mb p (keys L).length cap) ∧ VMap w mb L ∧ Own kH w 0 p cap (keys L) ∧ F B ∧ F mb ∧ ∀ g, bk p = some g → F g
  ok : VOk r L
  lies : Lies F w
section
variable {w w' : World} {F G F' : Nat → Prop} {B C r : Nat} {L : VL}
theorem CAt.chg (h : CAt w F B r L) (c : Chg G w w') (hs : Sep G F) : CAt w' F B r L := by
  obtain ⟨mb, p, cap, h1, h2, h3, f1, f2, f3⟩ := h.ex
  exact ⟨⟨mb, p, cap, h1.chg c (fun e => hs B e f1), h2.chg c (fun e => hs mb e f2), h3.chg c (fun g hg e => hs g e (f3 g hg)), f1, f2, f3⟩, h.ok, h.lies.mono c.size⟩
theorem CAt.old (h : CAt w F B r L) (hb : Below w.heap.size w w') : CAt w' F B r L := h.chg (Chg.of_below (fun _ => False) hb) (fun k hk => hk.elim)
theorem CAt.congr {M : VL} (h : CAt w F B r L) (e : L = M) : CAt w F B r M := e ▸ h
def prc (x : List Nat × Bool) : List Value := u8s x.1 ++ [.bool x.2]
def PrOk (x : List Nat × Bool) : Prop := H32 x.1
def zpr : List Nat × Bool := (zh, false)
theorem prc_len {x : List Nat × Bool} (h : PrOk x) : (prc x).length = 33 := by unfold prc; rw [List.length_append, h_len h]; rfl
theorem one_bool (b : Bool) : OneCells [.bool b] := by intro v hv; rw [List.mem_singleton.1 hv]; rfl
theorem prc_one (x : List Nat × Bool) : OneCells (prc x) := one_app (u8s_one _) (one_bool _)
abbrev kP : Kind (List Nat × Bool) := ⟨prc, PrOk, zpr, 33, 57, 40, 33⟩
theorem fP : kP.Fit Try.prog where
  len := fun x h => prc_len h
  one := fun x => prc_one x
  zok := zh_ok
  pos := by decide
  small := by decide
  bsmall := by decide
  und := by kernel_rfl
  row := ⟨.struct (Try.prog.fieldsOf 57), by kernel_rfl, rfl⟩
  info := by kernel_rfl
def rcs (r : Nat) (p : Option Addr) (n cap : Nat) : List Value := [.slice p n cap, .int .i64 (r : Int)]
structure RAt (w : World) (F : Nat → Prop) (C r : Nat) (L : VL) : Prop where
  ex : ∃ p cap, Row w C 42 (rcs r p L.length cap) ∧ At kP w p L ∧ L.length ≤ cap ∧ F C ∧ ∀ g, bk p = some g → F g
  ok : VOk r L
  lies : Lies F w
theorem RAt.chg (h : RAt w F C r L) (c : Chg G w w') (hs : Sep G F) : RAt w' F C r L := by
  obtain ⟨p, cap, h1, h3, h4, f1, f3⟩ := h.ex
  exact ⟨⟨p, cap, h1.chg c (fun e => hs C e f1), h3.chg c (fun g hg e => hs g e (f3 g hg)), h4, f1, f3⟩, h.ok, h.lies.mono c.size⟩
theorem RAt.old (h : RAt w F C r L) (hb : Below w.heap.size w w') : RAt w' F C r L := h.chg (Chg.of_below (fun _ => False) hb) (fun k hk => hk.elim)
theorem RAt.congr {M : VL} (h : RAt w F C r L) (e : L = M) : RAt w F C r M := e ▸ h
end
theorem prs_ok {r : Nat} {L : VL} (h : VOk r L) : kP.AllOk L := fun x hx => h.ok x.1 (List.mem_map.2 ⟨x, hx, rfl⟩)
theorem prc_b {x : List Nat × Bool} (h : PrOk x) : (prc x)[32]? = some (.bool x.2) := by
  unfold prc
  rw [List.getElem?_append_right (by rw [h_len h]; omega), h_len h]
  rfl
def pplaces : Nat → Option (Nat × Nat) := fun i => (#[(0, 32), (32, 1)] : Array (Nat × Nat))[i]?
theorem shape_pair (parts : List (Nat × Value)) : Try.prog.built 57 parts = Instr.fill pplaces (prc zpr).toArray parts := by unfold pplaces; kernel_rfl
theorem pp0 : pplaces 0 = some (0, 32) := by kernel_rfl
theorem pp1 : pplaces 1 = some (32, 1) := by kernel_rfl
theorem lay_ph {x : List Nat × Bool} {h : List Nat} (k : PrOk x) (hh : H32 h) : lay (prc x) 0 (u8s h) = prc (h, x.2) := by unfold prc; rw [lay_head _ _ _ (by rw [h_len hh, h_len k])]
theorem lay_pb {x : List Nat × Bool} (b : Bool) (k : PrOk x) : lay (prc x) 32 [.bool b] = prc (x.1, b) := by
  unfold prc
  rw [show (32 : Nat) = 32 + 0 from rfl, lay_skip _ _ _ _ (h_len k), lay_all [.bool x.2] [.bool b] rfl]
theorem built_pair {h : List Nat} (b : Bool) (hh : H32 h) : Try.prog.built 57 [(0, .agg (u8s h).toArray), (1, .bool b)] = some (prc (h, b)).toArray := by
  rw [shape_pair, fill_step pplaces (prc zpr) 0 0 32 _ (u8s h) _ pp0 rfl (h_len hh) (by rw [prc_len (show PrOk zpr from zh_ok)]; omega), lay_ph (show PrOk zpr from zh_ok) hh, fill_step pplaces _ 1 32 1 _ [.bool b] _ pp1 rfl rfl (by rw [prc_len (show PrOk (h, zpr.2) from hh)]; omega), lay_pb b (show PrOk (h, zpr.2) from hh), fill_done]
section
variable {o : Oper} {a : Act}
theorem run_op_eqlV (x y : Operand) (t' : TypeId) (ho : o.op = .binOp .eql 32 x y t') (xs ys : List Nat) (hlx : H32 xs) (hly : H32 ys) (hx : a.eval x = .agg (u8s xs).toArray) (hy : a.eval y = .agg (u8s ys).toArray) (b : Bool) (hb : decide (xs = ys) = b) (w : World) : (execOp a.eval o).run Try.prog w = .ok (.value (.bool b)) w := by
  subst hb
  exact Sha.run_op_eql2 x y t' ho xs ys hlx.len hly.len hx hy w
theorem run_op_neqV (x y : Operand) (t' : TypeId) (ho : o.op = .binOp .neq 32 x y t') (xs ys : List Nat) (hlx : H32 xs) (hly : H32 ys) (hx : a.eval x = .agg (u8s xs).toArray) (hy : a.eval y = .agg (u8s ys).toArray) (b : Bool) (hb : (!decide (xs = ys)) = b) (w : World) : (execOp a.eval o).run Try.prog w = .ok (.value (.bool b)) w := by
  subst hb
  exact Sha.run_op_neq2 x y t' ho xs ys hlx.len hly.len hx hy w
end
section
variable {o : Oper} {a : Act}
theorem run_op_neqBB (x y : Operand) (t' : TypeId) (ho : o.op = .binOp .neq 4 x y t') (p q : Bool) (hx : a.eval x = .bool p) (hy : a.eval y = .bool q) (r : Bool) (hr : (p != q) = r) (w : World) : (execOp a.eval o).run Try.prog w = .ok (.value (.bool r)) w := by
  subst hr
  unfold execOp
  cases p <;> cases q <;> simp only [ho, hx, hy] <;> kernel_rfl
end
abbrev Is64 (p : Int) : Prop := (Lit.int .i64 p).wf = true
structure Vact where
  doo : Int
  h : List Nat
  is : Bool
structure Vact.Ok (x : Vact) : Prop where
  doo : Is64 x.doo
  h : H32 x.h
def zv : Vact := ⟨0, zh, false⟩
theorem zv_ok : zv.Ok := ⟨by decide, zh_ok⟩
def vac (x : Vact) : List Value := [.int .i64 x.doo] ++ (u8s x.h ++ [.bool x.is])
theorem vac_len {x : Vact} (k : x.Ok) : (vac x).length = 34 := by unfold vac; rw [List.length_append, List.length_append, h_len k.h]; rfl
theorem vac_one (x : Vact) : OneCells (vac x) := one_app (fun v hv => by rw [List.mem_singleton.1 hv]; rfl) (one_app (u8s_one _) (one_bool _))
abbrev kA : Kind Vact := ⟨vac, Vact.Ok, zv, 34, 34, 22, 48⟩
theorem fA : kA.Fit Try.prog where
  len := fun x h => vac_len h
  one := fun x => vac_one x
  zok := zv_ok
  pos := by decide
  small := by decide
  bsmall := by decide
  und := by kernel_rfl
  row := ⟨.struct (Try.prog.fieldsOf 34), by kernel_rfl, rfl⟩
  info := by kernel_rfl
theorem z_vac : Mem.Zero Try.prog 34 (vac zv) := by unfold Mem.Zero; kernel_rfl
theorem sz_vac {x : Vact} (k : x.Ok) : Sized Try.prog 34 (vac x).length := by rw [vac_len k]; exact ⟨.struct (Try.prog.fieldsOf 34), by kernel_rfl, rfl, by kernel_rfl⟩
theorem fitVa {x : Vact} (k : x.Ok) : 0 + (vac x).length ≤ (vac zv).length := by rw [vac_len k, vac_len zv_ok]; omega
theorem allVa {x : Vact} (k : x.Ok) : lay (vac zv) 0 (vac x) = vac x := lay_all _ _ (by rw [vac_len k, vac_len zv_ok])
theorem vac_d (x : Vact) : (vac x)[0]? = some (.int .i64 x.doo) := rfl
theorem vac_h (x : Vact) : Has (vac x) 1 (u8s x.h) := ((Has.refl (vac x)).right 1 rfl).left
theorem vac_b {x : Vact} (k : x.Ok) : (vac x)[33]? = some (.bool x.is) := by
  unfold vac
  rw [List.getElem?_append_right (by simp), List.getElem?_append_right (by rw [h_len k.h]; simp), h_len k.h]
  rfl
theorem act_und : Try.prog.underlying 34 = some (.struct (Try.prog.fieldsOf 34)) := by kernel_rfl
theorem act_flds : ∃ f0 f1 f2 : Field, Try.prog.fieldsOf 34 = #[f0, f1, f2] ∧ f0.type = 3 ∧ f0.offset = 0 ∧ f1.type = 32 ∧ f1.offset = 1 ∧ f2.type = 4 ∧ f2.offset = 33 :=
  ⟨(Try.prog.fieldsOf 34)[0]!, (Try.prog.fieldsOf 34)[1]!, (Try.prog.fieldsOf 34)[2]!, by kernel_rfl, by kernel_rfl, by kernel_rfl, by kernel_rfl, by kernel_rfl, by kernel_rfl, by kernel_rfl⟩
theorem und_hash : Try.prog.underlying 32 = some (.array 32 5) := by kernel_rfl
theorem cells_hash : Try.prog.cellsOf 32 = 32 := by kernel_rfl
section
variable {H : Type} {enc : TypeId × Value → H} {w : World} {base : Nat} {spare : Nat → Bool} {held : Bool} {fuel : Nat} {cs : List Value} {x : DataW H × List MemPlace}
theorem hh_of (h : DataW.trod enc Try.prog w base spare held fuel 32 cs = some x) : ∃ a : List Nat, cs = u8s a ∧ H32 a := by
  obtain ⟨hh, e, h1, h2⟩ := Tg.hash_of und_hash cells_hash h
  exact ⟨hh, e, ⟨h1, h2⟩⟩
theorem act_of (h : DataW.trod enc Try.prog w base spare held fuel 34 cs = some x) : ∃ a : Vact, cs = vac a ∧ a.Ok := by
  obtain ⟨f0, f1, f2, hf, t0, o0, t1, o1, t2, o2⟩ := act_flds
  have hu := act_und
  rw [hf] at hu
  obtain ⟨y0, y1, y2, n, rfl, hlen, h0, h1, h2⟩ := Deep.trod_struct3 hu h
  have c0 : Try.prog.cellsOf 3 = 1 := by kernel_rfl
  have c2 : Try.prog.cellsOf 4 = 1 := by kernel_rfl
  have c3 : Try.prog.cellsOf 34 = 34 := by kernel_rfl
  rw [c3] at hlen
  rw [t0, o0, c0] at h0
  rw [t1, o1, cells_hash] at h1
  rw [t2, o2, c2] at h2
  obtain ⟨p, e0, _, w0⟩ := DataW.trod_int Try.underlying3 h0
  obtain ⟨q, e1, w1⟩ := hh_of h1
  obtain ⟨b, e2, _⟩ := DataW.trod_bool Try.underlying4 h2
  refine ⟨⟨p, q, b⟩, ?_, ⟨w0, w1⟩⟩
  unfold vac
  rw [← e1, ← e2, ← e0, List.drop_zero]
  have s : (cs.drop 1).take 32 ++ cs.drop 33 = cs.drop 1 := by
    rw [← show (cs.drop 1).drop 32 = cs.drop 33 from by rw [List.drop_drop]]
    exact List.take_append_drop 32 (cs.drop 1)
  rw [show (cs.drop 33).take 1 = cs.drop 33 from List.take_of_length_le (by rw [List.length_drop]; omega), s]
  exact (List.take_append_drop 1 cs).symm
end
end Go.Proofs.Ytbpghogdjpobnaa.Vd
