/-
  Messages as cells: what stands where, what is put in; written out; '=='; that came in, opened. Over this seat's translation.
-/
import Derived.Test.YtghogoijjaiccaaMsgSpec
import Derived.Test.YtghogoijjaiccaaStaMade
import Derived.Test.YtghogoijjaiccaaStaReads
import Derived.Test.YtghogoijjaiccaaAccReads
import Derived.Test.YtghogoijjaiccaaTreAll
import Derived.Test.YtghogoijjaiccaaPrfActs
namespace Go.Proofs.Ytghogoijjaiccaa.Ms
open Go.ChangeShapes Go.WideShapes Go.ChangeAt Go.RowKit Go.Proofs.Ytghogoijjaiccaa.Mem Go.Proofs.Ytghogoijjaiccaa.Bt Go.Proofs.Ytghogoijjaiccaa.Wi Go.Proofs.Ytghogoijjaiccaa.Ac Go.Proofs.Ytghogoijjaiccaa.Tr Go.Proofs.Ytghogoijjaiccaa.Pf
open Go.Proofs.Ytghogoijjaiccaa.Ep (H32 zh zh_ok Has Has.refl Has.left Has.right Has.head Has.get Has.chunk Has.range h_len szH zH fitH allH one_app num32)
open Go.Proofs.Ytghogoijjaiccaa.Sa (Sta scs scs_len scs_one zs zs_ok scs_app)
set_option linter.unusedVariables false
set_option linter.unusedSimpArgs false

theorem mcs_app (m : Msg) : mcs m = [.int .u8 (m.kind : Int)] ++ ([.int .u32 (m.ver : Int)] ++ (scs m.st ++ ([.int .i64 m.pl] ++ (acs m.acc ++ (dgC m.path ++ []))))) := by rw [List.append_nil]; rfl
theorem dg_path {L : List (List Nat)} (h : P4 L) : (dgC L).length = 128 := dg4 h.ok h.len
section
variable {m : Msg}
theorem m_kind (m : Msg) : Has (mcs m) 0 [.int .u8 (m.kind : Int)] := by rw [mcs_app]; exact (Has.refl _).left
theorem m_ver (m : Msg) : Has (mcs m) 1 [.int .u32 (m.ver : Int)] := by rw [mcs_app]; exact ((Has.refl _).right 1 rfl).left
theorem m_st (m : Msg) : Has (mcs m) 2 (scs m.st) := by rw [mcs_app]; exact (((Has.refl _).right 1 rfl).right 1 rfl).left
theorem m_pl (k : m.st.Ok) : Has (mcs m) 365 [.int .i64 m.pl] := by rw [mcs_app]; exact ((((Has.refl _).right 1 rfl).right 1 rfl).right 363 (scs_len k)).left
theorem m_acc (k : m.st.Ok) : Has (mcs m) 366 (acs m.acc) := by rw [mcs_app]; exact (((((Has.refl _).right 1 rfl).right 1 rfl).right 363 (scs_len k)).right 1 rfl).left
theorem m_path (k : m.st.Ok) : Has (mcs m) 369 (dgC m.path) := by rw [mcs_app]; exact ((((((Has.refl _).right 1 rfl).right 1 rfl).right 363 (scs_len k)).right 1 rfl).right 3 rfl).left
theorem m_nm (k : m.st.Ok) : Has (mcs m) 366 [.string m.acc.nm] := (m_acc k).head
theorem lay_kind (n : Nat) : lay (mcs m) 0 [.int .u8 (n : Int)] = mcs { m with kind := n } := by
  rw [mcs_app, lay_head [.int .u8 (m.kind : Int)] _ [.int .u8 (n : Int)] rfl, mcs_app]
theorem lay_ver (n : Nat) : lay (mcs m) 1 [.int .u32 (n : Int)] = mcs { m with ver := n } := by
  rw [mcs_app, show (1 : Nat) = 1 + 0 from rfl, lay_skip _ _ _ _ (m := 1) rfl, lay_head [.int .u32 (m.ver : Int)] _ [.int .u32 (n : Int)] rfl, mcs_app]
theorem lay_st {s : Sta} (k : m.st.Ok) (j : s.Ok) : lay (mcs m) 2 (scs s) = mcs { m with st := s } := by
  rw [mcs_app, show (2 : Nat) = 1 + (1 + 0) from rfl, lay_skip _ _ _ _ (m := 1) rfl, lay_skip _ _ _ _ (m := 1) rfl, lay_head _ _ _ (by rw [scs_len k, scs_len j]), mcs_app]
theorem lay_pl (k : m.st.Ok) (p : Int) : lay (mcs m) 365 [.int .i64 p] = mcs { m with pl := p } := by
  rw [mcs_app, show (365 : Nat) = 1 + (1 + (363 + 0)) from rfl, lay_skip _ _ _ _ (m := 1) rfl, lay_skip _ _ _ _ (m := 1) rfl, lay_skip _ _ _ _ (scs_len k), lay_head [.int .i64 m.pl] _ [.int .i64 p] rfl, mcs_app]
theorem lay_acc (k : m.st.Ok) (a : Acct) : lay (mcs m) 366 (acs a) = mcs { m with acc := a } := by
  rw [mcs_app, show (366 : Nat) = 1 + (1 + (363 + (1 + 0))) from rfl, lay_skip _ _ _ _ (m := 1) rfl, lay_skip _ _ _ _ (m := 1) rfl, lay_skip _ _ _ _ (scs_len k), lay_skip _ _ _ _ (m := 1) rfl, lay_head (acs m.acc) _ (acs a) rfl, mcs_app]
theorem lay_path (k : m.st.Ok) (h : P4 m.path) {L : List (List Nat)} (hL : P4 L) : lay (mcs m) 369 (dgC L) = mcs { m with path := L } := by
  rw [mcs_app, show (369 : Nat) = 1 + (1 + (363 + (1 + (3 + 0)))) from rfl, lay_skip _ _ _ _ (m := 1) rfl, lay_skip _ _ _ _ (m := 1) rfl, lay_skip _ _ _ _ (scs_len k), lay_skip _ _ _ _ (m := 1) rfl, lay_skip _ _ _ _ (m := 3) rfl, lay_head _ _ _ (by rw [dg_path h, dg_path hL]), mcs_app]
theorem led_app (m : Msg) (y : List Nat) : mcs { m with st := { m.st with led := y } } = [.int .u8 (m.kind : Int)] ++ ([.int .u32 (m.ver : Int)] ++ (u8s m.st.prev ++ (u8s y ++ (u8s m.st.draw ++ (num32 m.st.slot :: num32 m.st.len :: num32 m.st.count :: (Wn.wcs m.st.min m.st.last m.st.counts ++ Ep.pcs m.st.now m.st.next)) ++ (.int .i64 m.pl :: (acs m.acc ++ dgC m.path)))))) := by
  simp [mcs, scs]
theorem lay_led (k : m.st.Ok) {x : List Nat} (hx : H32 x) : lay (mcs m) 34 (u8s x) = mcs { m with st := { m.st with led := x } } := by
  show lay (mcs { m with st := { m.st with led := m.st.led } }) 34 (u8s x) = _
  rw [led_app, led_app, show (34 : Nat) = 1 + (1 + (32 + 0)) from rfl, lay_skip _ _ _ _ (m := 1) rfl, lay_skip _ _ _ _ (m := 1) rfl, lay_skip _ _ _ _ (h_len k.prev), lay_head _ _ _ (by rw [h_len hx, h_len k.led])]
theorem lay_dig (k : m.st.Ok) (h : P4 m.path) {x : List Nat} (hx : H32 x) {i : Nat} (hi : i < 4) : lay (mcs m) (369 + 32 * i) (u8s x) = mcs { m with path := m.path.set i x } := by
  have := dg_lay m.path ([.int .u8 (m.kind : Int)] ++ ([.int .u32 (m.ver : Int)] ++ (scs m.st ++ ([.int .i64 m.pl] ++ acs m.acc)))) i x h.ok hx (by rw [h.len]; exact hi)
  have e : ([Value.int .u8 (m.kind : Int)] ++ ([Value.int .u32 (m.ver : Int)] ++ (scs m.st ++ ([Value.int .i64 m.pl] ++ acs m.acc)))).length = 369 := by
    simp only [List.length_append, List.length_cons, List.length_nil, scs_len k, acs_len]
  rw [e] at this
  simpa [mcs] using this
end
theorem sz_msg {m : Msg} (k : m.Ok) : Sized Try.prog 42 (mcs m).length := by rw [mcs_len k]; exact ⟨.struct (Try.prog.fieldsOf 42), by kernel_rfl, rfl, by kernel_rfl⟩
theorem sz_rmsg {m : Msg} (k : m.Ok) : Sized Try.prog 59 (mcs m).length := by rw [mcs_len k]; exact ⟨.struct (Try.prog.fieldsOf 59), by kernel_rfl, rfl, by kernel_rfl⟩
theorem z_msg : Mem.Zero Try.prog 42 (mcs zm) := by unfold Mem.Zero; kernel_rfl
theorem z_rmsg : Mem.Zero Try.prog 59 (mcs zm) := by unfold Mem.Zero; kernel_rfl
theorem fitM {m : Msg} (k : m.Ok) : 0 + (mcs m).length ≤ (mcs zm).length := by rw [mcs_len k, mcs_len zm_ok]; omega
theorem allM {m : Msg} (k : m.Ok) : lay (mcs zm) 0 (mcs m) = mcs m := lay_all _ _ (by rw [mcs_len k, mcs_len zm_ok])
def mplaces : Nat → Option (Nat × Nat) := fun i => (#[(0, 1), (1, 1), (2, 363), (365, 1), (366, 3), (369, 128)] : Array (Nat × Nat))[i]?
theorem shape_msg (parts : List (Nat × Value)) : Try.prog.built 42 parts = Instr.fill mplaces (mcs zm).toArray parts := by unfold mplaces; kernel_rfl
theorem shape_rmsg (parts : List (Nat × Value)) : Try.prog.built 59 parts = Instr.fill mplaces (mcs zm).toArray parts := by unfold mplaces; kernel_rfl
section
variable {m : Msg} (k : m.Ok) (rest : List (Nat × Value))
include k
theorem f_kind (n : Nat) : Instr.fill mplaces (mcs m).toArray ((0, .int .u8 (n : Int)) :: rest) = Instr.fill mplaces (mcs { m with kind := n }).toArray rest := by
  rw [fill_step mplaces (mcs m) 0 0 1 _ [.int .u8 (n : Int)] rest rfl rfl rfl (by rw [mcs_len k]; omega), lay_kind]
theorem f_ver (n : Nat) : Instr.fill mplaces (mcs m).toArray ((1, .int .u32 (n : Int)) :: rest) = Instr.fill mplaces (mcs { m with ver := n }).toArray rest := by
  rw [fill_step mplaces (mcs m) 1 1 1 _ [.int .u32 (n : Int)] rest rfl rfl rfl (by rw [mcs_len k]; omega), lay_ver]
theorem f_st {s : Sta} (j : s.Ok) : Instr.fill mplaces (mcs m).toArray ((2, .agg (scs s).toArray) :: rest) = Instr.fill mplaces (mcs { m with st := s }).toArray rest := by
  rw [fill_step mplaces (mcs m) 2 2 363 _ (scs s) rest rfl rfl (scs_len j) (by rw [mcs_len k]; omega), lay_st k.st j]
theorem f_pl (p : Int) : Instr.fill mplaces (mcs m).toArray ((3, .int .i64 p) :: rest) = Instr.fill mplaces (mcs { m with pl := p }).toArray rest := by
  rw [fill_step mplaces (mcs m) 3 365 1 _ [.int .i64 p] rest rfl rfl rfl (by rw [mcs_len k]; omega), lay_pl k.st]
theorem f_acc (a : Acct) : Instr.fill mplaces (mcs m).toArray ((4, .agg (acs a).toArray) :: rest) = Instr.fill mplaces (mcs { m with acc := a }).toArray rest := by
  rw [fill_step mplaces (mcs m) 4 366 3 _ (acs a) rest rfl rfl (acs_len a) (by rw [mcs_len k]; omega), lay_acc k.st]
theorem f_path {L : List (List Nat)} (h : P4 L) : Instr.fill mplaces (mcs m).toArray ((5, .agg (dgC L).toArray) :: rest) = Instr.fill mplaces (mcs { m with path := L }).toArray rest := by
  rw [fill_step mplaces (mcs m) 5 369 128 _ (dgC L) rest rfl rfl (dg_path h) (by rw [mcs_len k]; omega), lay_path k.st k.path h]
end
/-- What a message of Show tells, of whatever place. -/
def shownI (p : Int) (a : Acct) (L : List (List Nat)) : Msg := ⟨4, 0, zs, p, a, L⟩
/-- Of a kind alone. -/
def ofK (n : Nat) : Msg := ⟨n, 0, zs, 0, za, z4⟩
theorem ofK_ok {n : Nat} (h : n < 256) : (ofK n).Ok := ⟨h, (by decide : 0 < 4294967296), zs_ok, (by decide : (-9223372036854775808 : Int) ≤ 0), (by decide : (0 : Int) < 9223372036854775808), za_ok, z4_p4⟩
theorem f_kind0 (n : Nat) (rest : List (Nat × Value)) : Instr.fill mplaces (mcs zm).toArray ((0, .int .u8 (n : Int)) :: rest) = Instr.fill mplaces (mcs (ofK n)).toArray rest := f_kind zm_ok _ n
theorem k0_ok {n v : Nat} {s : Sta} (h : n < 256) (hv : v < 4294967296) (ks : s.Ok) : (Msg.mk n v s 0 za z4).Ok := ⟨h, hv, ks, (by decide : (-9223372036854775808 : Int) ≤ 0), (by decide : (0 : Int) < 9223372036854775808), za_ok, z4_p4⟩
theorem fill_k (n : Nat) : Instr.fill mplaces (mcs zm).toArray [(0, .int .u8 (n : Int))] = some (mcs (ofK n)).toArray := by rw [f_kind0, fill_done]
theorem fk_ver (n v : Nat) (h : n < 256) (rest : List (Nat × Value)) : Instr.fill mplaces (mcs (ofK n)).toArray ((1, .int .u32 (v : Int)) :: rest) = Instr.fill mplaces (mcs ⟨n, v, zs, 0, za, z4⟩).toArray rest := f_ver (ofK_ok h) _ v
theorem fk_st (n v : Nat) (h : n < 256) (hv : v < 4294967296) {s : Sta} (j : s.Ok) (rest : List (Nat × Value)) : Instr.fill mplaces (mcs ⟨n, v, zs, 0, za, z4⟩).toArray ((2, .agg (scs s).toArray) :: rest) = Instr.fill mplaces (mcs ⟨n, v, s, 0, za, z4⟩).toArray rest := f_st (k0_ok h hv zs_ok) _ j
theorem fk_pl (n v : Nat) (s : Sta) (h : n < 256) (hv : v < 4294967296) (j : s.Ok) (p : Int) (rest : List (Nat × Value)) : Instr.fill mplaces (mcs ⟨n, v, s, 0, za, z4⟩).toArray ((3, .int .i64 p) :: rest) = Instr.fill mplaces (mcs ⟨n, v, s, p, za, z4⟩).toArray rest := f_pl (k0_ok h hv j) _ p
theorem fk_acc (n v : Nat) (s : Sta) (h : n < 256) (hv : v < 4294967296) (j : s.Ok) (p : Int) (hlo : -9223372036854775808 ≤ p) (hhi : p < 9223372036854775808) (a : Acct) (rest : List (Nat × Value)) : Instr.fill mplaces (mcs ⟨n, v, s, p, za, z4⟩).toArray ((4, .agg (acs a).toArray) :: rest) = Instr.fill mplaces (mcs ⟨n, v, s, p, a, z4⟩).toArray rest := f_acc (m := ⟨n, v, s, p, za, z4⟩) ⟨h, hv, j, hlo, hhi, za_ok, z4_p4⟩ _ a
theorem fk_path (n v : Nat) (s : Sta) (h : n < 256) (hv : v < 4294967296) (j : s.Ok) (p : Int) (hlo : -9223372036854775808 ≤ p) (hhi : p < 9223372036854775808) {a : Acct} (ka : a.Ok) {L : List (List Nat)} (kL : P4 L) (rest : List (Nat × Value)) : Instr.fill mplaces (mcs ⟨n, v, s, p, a, z4⟩).toArray ((5, .agg (dgC L).toArray) :: rest) = Instr.fill mplaces (mcs ⟨n, v, s, p, a, L⟩).toArray rest := f_path (m := ⟨n, v, s, p, a, z4⟩) ⟨h, hv, j, hlo, hhi, ka, z4_p4⟩ _ kL
theorem fill_h (v : Nat) : Instr.fill mplaces (mcs zm).toArray [(0, .int .u8 ((1 : Nat) : Int)), (1, .int .u32 (v : Int))] = some (mcs (hello v)).toArray := by rw [f_kind0, fk_ver _ _ (by decide), fill_done]; rfl
theorem fill_t {s : Sta} (j : s.Ok) : Instr.fill mplaces (mcs zm).toArray [(0, .int .u8 ((2 : Nat) : Int)), (2, .agg (scs s).toArray)] = some (mcs (tip s)).toArray := by rw [f_kind0, show ofK 2 = ⟨2, 0, zs, 0, za, z4⟩ from rfl, fk_st _ _ (by decide) (by decide) j, fill_done]; rfl
theorem fill_s {p : Int} (hlo : -9223372036854775808 ≤ p) (hhi : p < 9223372036854775808) {a : Acct} (ka : a.Ok) {L : List (List Nat)} (h : P4 L) : Instr.fill mplaces (mcs zm).toArray [(0, .int .u8 ((4 : Nat) : Int)), (3, .int .i64 p), (4, .agg (acs a).toArray), (5, .agg (dgC L).toArray)] = some (mcs (shownI p a L)).toArray := by
  rw [f_kind0, show ofK 4 = ⟨4, 0, zs, 0, za, z4⟩ from rfl, fk_pl _ _ _ (by decide) (by decide) zs_ok, fk_acc _ _ _ (by decide) (by decide) zs_ok _ hlo hhi, fk_path _ _ _ (by decide) (by decide) zs_ok _ hlo hhi ka h, fill_done]
  rfl
theorem fill_all {m : Msg} (k : m.Ok) : Instr.fill mplaces (mcs zm).toArray [(0, .int .u8 (m.kind : Int)), (1, .int .u32 (m.ver : Int)), (2, .agg (scs m.st).toArray), (3, .int .i64 m.pl), (4, .agg (acs m.acc).toArray), (5, .agg (dgC m.path).toArray)] = some (mcs m).toArray := by
  rw [f_kind0, fk_ver _ _ k.kind, fk_st _ _ k.kind k.ver k.st, fk_pl _ _ _ k.kind k.ver k.st, fk_acc _ _ _ k.kind k.ver k.st _ k.lo k.hi, fk_path _ _ _ k.kind k.ver k.st _ k.lo k.hi k.acc k.path, fill_done]
theorem built_m0 : Try.prog.built 42 [] = some (mcs zm).toArray := by rw [shape_msg, fill_done]
theorem built_mk (n : Nat) : Try.prog.built 42 [(0, .int .u8 (n : Int))] = some (mcs (ofK n)).toArray := by rw [shape_msg, fill_k]
theorem built_mh (v : Nat) : Try.prog.built 42 [(0, .int .u8 1), (1, .int .u32 (v : Int))] = some (mcs (hello v)).toArray := by rw [shape_msg]; exact fill_h v
theorem built_mt {s : Sta} (j : s.Ok) : Try.prog.built 42 [(0, .int .u8 2), (2, .agg (scs s).toArray)] = some (mcs (tip s)).toArray := by rw [shape_msg]; exact fill_t j
theorem built_ms {p : Int} (hlo : -9223372036854775808 ≤ p) (hhi : p < 9223372036854775808) {a : Acct} (ka : a.Ok) {L : List (List Nat)} (h : P4 L) : Try.prog.built 42 [(0, .int .u8 4), (3, .int .i64 p), (4, .agg (acs a).toArray), (5, .agg (dgC L).toArray)] = some (mcs (shownI p a L)).toArray := by rw [shape_msg]; exact fill_s hlo hhi ka h
theorem built_r0 : Try.prog.built 59 [] = some (mcs zm).toArray := by rw [shape_rmsg, fill_done]
theorem built_rk (n : Nat) : Try.prog.built 59 [(0, .int .u8 (n : Int))] = some (mcs (ofK n)).toArray := by rw [shape_rmsg, fill_k]
theorem built_rh (v : Nat) : Try.prog.built 59 [(0, .int .u8 1), (1, .int .u32 (v : Int))] = some (mcs (hello v)).toArray := by rw [shape_rmsg]; exact fill_h v
theorem built_rt {s : Sta} (j : s.Ok) : Try.prog.built 59 [(0, .int .u8 2), (2, .agg (scs s).toArray)] = some (mcs (tip s)).toArray := by rw [shape_rmsg]; exact fill_t j
theorem built_rall {m : Msg} (k : m.Ok) : Try.prog.built 59 [(0, .int .u8 (m.kind : Int)), (1, .int .u32 (m.ver : Int)), (2, .agg (scs m.st).toArray), (3, .int .i64 m.pl), (4, .agg (acs m.acc).toArray), (5, .agg (dgC m.path).toArray)] = some (mcs m).toArray := by rw [shape_rmsg, fill_all k]
set_option maxRecDepth 100000 in
theorem fit_path (e : Nat) {L : List (List Nat)} (h : P4 L) : Fit Try.prog (e + 3) 40 (dgC L) := by
  have c1 : Try.prog.cellsOf 24 = 32 := by kernel_rfl
  refine fit_array (n := 4) (e := 24) (by kernel_rfl) (by kernel_rfl) (by rw [c1, dg_path h]) (fun i hi => ?_)
  rw [c1]
  have hh := dg_has L [] i _ h.ok (h.get hi)
  simp only [List.nil_append, List.length_nil, Nat.zero_add] at hh
  rw [Nat.mul_comm i 32, hh.chunk (h_len (h.at hi))]
  exact Ep.fit_hash e (h.at hi)
set_option maxRecDepth 100000 in
theorem fit_msg {m : Msg} (k : m.Ok) (e : Nat) : Fit Try.prog (e + 6) 42 (mcs m) := by
  refine fit_struct [(5, 0), (22, 1), (35, 2), (3, 365), (38, 366), (40, 369)] (by kernel_rfl) (by kernel_rfl) (by kernel_rfl) (n := 497) (by kernel_rfl) (mcs_len k) ?_
  have c1 : Try.prog.cellsOf 5 = 1 := by kernel_rfl
  have c2 : Try.prog.cellsOf 22 = 1 := by kernel_rfl
  have c3 : Try.prog.cellsOf 35 = 363 := by kernel_rfl
  have c4 : Try.prog.cellsOf 3 = 1 := by kernel_rfl
  have c5 : Try.prog.cellsOf 38 = 3 := by kernel_rfl
  have c6 : Try.prog.cellsOf 40 = 128 := by kernel_rfl
  intro p hp
  simp only [List.mem_cons, List.not_mem_nil, or_false] at hp
  rcases hp with rfl | rfl | rfl | rfl | rfl | rfl
  · rw [c1, (m_kind m).chunk (n := 1) rfl]; exact fit_int (by kernel_rfl) _
  · rw [c2, (m_ver m).chunk (n := 1) rfl]; exact fit_int (by kernel_rfl) _
  · rw [c3, (m_st m).chunk (scs_len k.st)]; exact Sa.fit_sta k.st e
  · rw [c4, (m_pl k.st).chunk (n := 1) rfl]; exact fit_int (by kernel_rfl) _
  · rw [c5, (m_acc k.st).chunk (n := 3) rfl]; exact fit_acc (e + 3) m.acc
  · rw [c6, (m_path k.st).chunk (dg_path k.path)]; exact fit_path (e + 2) k.path
set_option maxRecDepth 100000 in
theorem fit_rpath (e : Nat) {L : List (List Nat)} (h : P4 L) : Fit Try.prog (e + 3) 39 (dgC L) := by
  have c1 : Try.prog.cellsOf 24 = 32 := by kernel_rfl
  refine fit_array (n := 4) (e := 24) (by kernel_rfl) (by kernel_rfl) (by rw [c1, dg_path h]) (fun i hi => ?_)
  rw [c1]
  have hh := dg_has L [] i _ h.ok (h.get hi)
  simp only [List.nil_append, List.length_nil, Nat.zero_add] at hh
  rw [Nat.mul_comm i 32, hh.chunk (h_len (h.at hi))]
  exact Ep.fit_hash e (h.at hi)
set_option maxRecDepth 100000 in
theorem fit_rmsg {m : Msg} (k : m.Ok) (e : Nat) : Fit Try.prog (e + 6) 59 (mcs m) := by
  refine fit_struct [(5, 0), (22, 1), (56, 2), (3, 365), (57, 366), (39, 369)] (by kernel_rfl) (by kernel_rfl) (by kernel_rfl) (n := 497) (by kernel_rfl) (mcs_len k) ?_
  have c1 : Try.prog.cellsOf 5 = 1 := by kernel_rfl
  have c2 : Try.prog.cellsOf 22 = 1 := by kernel_rfl
  have c3 : Try.prog.cellsOf 56 = 363 := by kernel_rfl
  have c4 : Try.prog.cellsOf 3 = 1 := by kernel_rfl
  have c5 : Try.prog.cellsOf 57 = 3 := by kernel_rfl
  have c6 : Try.prog.cellsOf 39 = 128 := by kernel_rfl
  intro p hp
  simp only [List.mem_cons, List.not_mem_nil, or_false] at hp
  rcases hp with rfl | rfl | rfl | rfl | rfl | rfl
  · rw [c1, (m_kind m).chunk (n := 1) rfl]; exact fit_int (by kernel_rfl) _
  · rw [c2, (m_ver m).chunk (n := 1) rfl]; exact fit_int (by kernel_rfl) _
  · rw [c3, (m_st m).chunk (scs_len k.st)]; exact Sa.fit_rsta k.st e
  · rw [c4, (m_pl k.st).chunk (n := 1) rfl]; exact fit_int (by kernel_rfl) _
  · rw [c5, (m_acc k.st).chunk (n := 3) rfl]; exact fit_racc (e + 3) m.acc
  · rw [c6, (m_path k.st).chunk (dg_path k.path)]; exact fit_rpath (e + 2) k.path
section
variable {o : Oper} {a : Act}
set_option maxRecDepth 100000 in
theorem run_op_eqlM {m n : Msg} (k : m.Ok) (j : n.Ok) (y z : Operand) (t' : TypeId) (ho : o.op = .binOp .eql 42 y z t') (hy : a.eval y = .agg (mcs m).toArray) (hz : a.eval z = .agg (mcs n).toArray) (b : Bool) (hb : b = true ↔ m = n) (w : World) : (execOp a.eval o).run Try.prog w = .ok (.value (.bool b)) w :=
  run_op_eqlF 42 y z t' ho 6 (by omega) (.struct (Try.prog.fieldsOf 42)) (by kernel_rfl) rfl (by kernel_rfl) (mcs m) (mcs n) hy hz (fit_msg k 0) (fit_msg j 0) b (hb.trans (mcs_iff k j).symm) w
set_option maxRecDepth 100000 in
theorem run_op_neqM {m n : Msg} (k : m.Ok) (j : n.Ok) (y z : Operand) (t' : TypeId) (ho : o.op = .binOp .neq 42 y z t') (hy : a.eval y = .agg (mcs m).toArray) (hz : a.eval z = .agg (mcs n).toArray) (b : Bool) (hb : b = true ↔ m = n) (w : World) : (execOp a.eval o).run Try.prog w = .ok (.value (.bool (!b))) w :=
  run_op_neqF 42 y z t' ho 6 (by omega) (.struct (Try.prog.fieldsOf 42)) (by kernel_rfl) rfl (by kernel_rfl) (mcs m) (mcs n) hy hz (fit_msg k 0) (fit_msg j 0) b (hb.trans (mcs_iff k j).symm) w
set_option maxRecDepth 100000 in
theorem run_op_eqlRM {m n : Msg} (k : m.Ok) (j : n.Ok) (y z : Operand) (t' : TypeId) (ho : o.op = .binOp .eql 59 y z t') (hy : a.eval y = .agg (mcs m).toArray) (hz : a.eval z = .agg (mcs n).toArray) (b : Bool) (hb : b = true ↔ m = n) (w : World) : (execOp a.eval o).run Try.prog w = .ok (.value (.bool b)) w :=
  run_op_eqlF 59 y z t' ho 6 (by omega) (.struct (Try.prog.fieldsOf 59)) (by kernel_rfl) rfl (by kernel_rfl) (mcs m) (mcs n) hy hz (fit_rmsg k 0) (fit_rmsg j 0) b (hb.trans (mcs_iff k j).symm) w
set_option maxRecDepth 100000 in
theorem run_op_neqRA (x y : Operand) (t' : TypeId) (ho : o.op = .binOp .neq 57 x y t') (c d : Acct) (hx : a.eval x = .agg (acs c).toArray) (hy : a.eval y = .agg (acs d).toArray) (b : Bool) (hb : b = true ↔ c = d) (w : World) : (execOp a.eval o).run Try.prog w = .ok (.value (.bool (!b))) w :=
  run_op_neqF _ x y t' ho 2 (by omega) (.struct (Try.prog.fieldsOf 57)) (by kernel_rfl) rfl (by kernel_rfl) (acs c) (acs d) hx hy (fit_racc 0 c) (fit_racc 0 d) b (hb.trans acs_iff.symm) w
set_option maxRecDepth 100000 in
theorem run_op_neqRS' {s t : Sta} (k : s.Ok) (j : t.Ok) (y z : Operand) (t' : TypeId) (ho : o.op = .binOp .neq 56 y z t') (hy : a.eval y = .agg (scs s).toArray) (hz : a.eval z = .agg (scs t).toArray) (b : Bool) (hb : b = true ↔ scs s = scs t) (w : World) : (execOp a.eval o).run Try.prog w = .ok (.value (.bool (!b))) w :=
  run_op_neqF 56 y z t' ho 5 (by omega) (.struct (Try.prog.fieldsOf 56)) (by kernel_rfl) rfl (by kernel_rfl) (scs s) (scs t) hy hz (Sa.fit_rsta k 0) (Sa.fit_rsta j 0) b hb w
end
theorem msg_und : Try.prog.underlying 42 = some (.struct (Try.prog.fieldsOf 42)) := by kernel_rfl
theorem msg_flds : ∃ f0 f1 f2 f3 f4 f5 : Field, Try.prog.fieldsOf 42 = #[f0, f1, f2, f3, f4, f5] ∧ (f0.type = 5 ∧ f0.offset = 0) ∧ (f1.type = 22 ∧ f1.offset = 1) ∧ (f2.type = 35 ∧ f2.offset = 2) ∧ (f3.type = 3 ∧ f3.offset = 365) ∧ (f4.type = 38 ∧ f4.offset = 366) ∧ (f5.type = 40 ∧ f5.offset = 369) :=
  ⟨(Try.prog.fieldsOf 42)[0]!, (Try.prog.fieldsOf 42)[1]!, (Try.prog.fieldsOf 42)[2]!, (Try.prog.fieldsOf 42)[3]!, (Try.prog.fieldsOf 42)[4]!, (Try.prog.fieldsOf 42)[5]!, by kernel_rfl, ⟨by kernel_rfl, by kernel_rfl⟩, ⟨by kernel_rfl, by kernel_rfl⟩, ⟨by kernel_rfl, by kernel_rfl⟩, ⟨by kernel_rfl, by kernel_rfl⟩, ⟨by kernel_rfl, by kernel_rfl⟩, ⟨by kernel_rfl, by kernel_rfl⟩⟩
theorem six_parts {cs : List Value} (h : cs.length = 497) : cs = (cs.drop 0).take 1 ++ ((cs.drop 1).take 1 ++ ((cs.drop 2).take 363 ++ ((cs.drop 365).take 1 ++ ((cs.drop 366).take 3 ++ (cs.drop 369).take 128)))) := by
  have e : (cs.drop 369).take 128 = cs.drop 369 := List.take_of_length_le (by rw [List.length_drop]; omega)
  have s : ∀ n k, (cs.drop n).take k ++ cs.drop (n + k) = cs.drop n := fun n k => by rw [← List.drop_drop]; exact List.take_append_drop k (cs.drop n)
  have s4 := s 366 3; have s3 := s 365 1; have s2 := s 2 363; have s1 := s 1 1; have s0 := s 0 1
  simp only [Nat.reduceAdd, Nat.zero_add] at s0 s1 s2 s3 s4
  rw [e, s4, s3, s2, s1, s0, List.drop_zero]
section
variable {H : Type} {enc : TypeId × Value → H} {w : World} {base : Nat} {spare : Nat → Bool} {held : Bool} {fuel : Nat} {cs : List Value} {x : DataW H × List MemPlace}
set_option maxRecDepth 100000 in
theorem msg_of (h : DataW.trod enc Try.prog w base spare held fuel 42 cs = some x) : ∃ m : Msg, cs = mcs m ∧ m.Ok := by
  obtain ⟨f0, f1, f2, f3, f4, f5, hf, ⟨t0, o0⟩, ⟨t1, o1⟩, ⟨t2, o2⟩, ⟨t3, o3⟩, ⟨t4, o4⟩, ⟨t5, o5⟩⟩ := msg_flds
  have hu := msg_und
  rw [hf] at hu
  obtain ⟨xs, n, _, rfl, hlen, hl2, hx⟩ := DataW.trod_struct hu h
  have h0 := hx 0 f0 rfl
  have h1 := hx 1 f1 rfl
  have h2 := hx 2 f2 rfl
  have h3 := hx 3 f3 rfl
  have h4 := hx 4 f4 rfl
  have h5 := hx 5 f5 rfl
  have c1 : Try.prog.cellsOf 5 = 1 := by kernel_rfl
  have c2 : Try.prog.cellsOf 22 = 1 := by kernel_rfl
  have c3 : Try.prog.cellsOf 35 = 363 := by kernel_rfl
  have c4 : Try.prog.cellsOf 3 = 1 := by kernel_rfl
  have c5 : Try.prog.cellsOf 38 = 3 := by kernel_rfl
  have c6 : Try.prog.cellsOf 40 = 128 := by kernel_rfl
  have c7 : Try.prog.cellsOf 42 = 497 := by kernel_rfl
  rw [c7] at hlen
  rw [t0, o0, c1] at h0
  rw [t1, o1, c2] at h1
  rw [t2, o2, c3] at h2
  rw [t3, o3, c4] at h3
  rw [t4, o4, c5] at h4
  rw [t5, o5, c6] at h5
  have g : ∀ i, i < 6 → ∃ y, xs[i]? = some y := fun i hi => ⟨_, List.getElem?_eq_getElem (by rw [hl2]; simpa using hi)⟩
  obtain ⟨y0, hy0⟩ := g 0 (by omega)
  obtain ⟨y1, hy1⟩ := g 1 (by omega)
  obtain ⟨y2, hy2⟩ := g 2 (by omega)
  obtain ⟨y3, hy3⟩ := g 3 (by omega)
  obtain ⟨y4, hy4⟩ := g 4 (by omega)
  obtain ⟨y5, hy5⟩ := g 5 (by omega)
  rw [hy0] at h0
  rw [hy1] at h1
  rw [hy2] at h2
  rw [hy3] at h3
  rw [hy4] at h4
  rw [hy5] at h5
  obtain ⟨k, e0, _, w0⟩ := DataW.trod_int Try.underlying5 h0
  obtain ⟨v, e1, _, w1⟩ := DataW.trod_int Try.underlying22 h1
  obtain ⟨s, e2, ks⟩ := Sa.sta_of h2
  obtain ⟨p, e3, _, w3⟩ := DataW.trod_int Try.underlying3 h3
  obtain ⟨a, e4, ka⟩ := acc_of h4
  obtain ⟨L, e5, kL⟩ := path_of h5
  simp [Lit.wf, IntKind.min, IntKind.max, IntKind.signed, IntKind.bits] at w0 w1 w3
  refine ⟨⟨k.toNat, v.toNat, s, p, a, L⟩, ?_, ⟨(show k.toNat < 256 by omega), (show v.toNat < 4294967296 by omega), ks, (show -9223372036854775808 ≤ p by omega), (show p < 9223372036854775808 by omega), ka, kL⟩⟩
  rw [six_parts hlen, e0, e1, e2, e3, e4, e5]
  unfold mcs
  simp only [List.cons_append, List.nil_append]
  rw [Int.toNat_of_nonneg (by omega), Int.toNat_of_nonneg (by omega)]
end
end Go.Proofs.Ytghogoijjaiccaa.Ms
