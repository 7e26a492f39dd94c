import PyProof.Rows.All
import Wide.All
import OpenK.AllK
import Wide.FinOn
import HandS.ForMost
import HandS.Walk
import HandS.Flow
import HandS.NoneIn
import HandS.FStr
import HandS.More
import HandS.SetKeys
import HandS.TupAny
import HandS.SortKw
import KE.GoesEnumKw
import KE.GoesEnum
import KE.GoesMore
import KE.SortData
import HandS.OwnEq
import HandS.IsInst
import PyProof.InstNe
import HandS.TupMul
import HandS.DictComp
import HandS.Ends
import HandS.Defaults
import HandS.Head0
import HandS.Head1
import HandS.Head2
import HandS.HeadEnd
import HandS.HeadHook1
import HandS.HeadHook2
import HandS.HeadHook3
import HandS.HeadHook4
import HandS.HeadNt
import PySem.Challenge.RW_osier_k03_webs_alike_and_as_text
set_option Elab.async false
set_option linter.all false
set_option maxRecDepth 100000
set_option maxHeartbeats 4000000
namespace OB
open PySem L2
abbrev Fg := PySem.W.Frag
/-! the frozen part G of a heap H; what a piece of code does to both -/
theorem sm_t {K : Fg} {H H' : Hp} {a : Addr} {xs : List V} (e : Same H H') (h : SqT K H a xs) : SqT K H' a xs := by
  rcases h with (h | ⟨o, h⟩) | h
  · exact .inl (.inl (e _ _ h))
  · exact .inl (.inr ⟨o, e _ _ h⟩)
  · exact .inr h
mutual
theorem dp_mono {K : Fg} {H H' : Hp} (e : Same H H') : ∀ (d : PyData) (v : V), Dp K H v d → Dp K H' v d
  | .none, _, h => by cases h; exact .non
  | .bool b, _, h => by cases h; exact .bl b
  | .int i, _, h => by cases h; exact .int i
  | .str x, _, h => by cases h; exact .str x
  | .list ds, _, h => by
    cases h with
    | lst hs ha => exact .lst (e.seq hs) (dpa_mono e ds _ ha)
  | .tuple ds, _, h => by
    cases h with
    | tup hs ha => exact .tup (sm_t e hs) (dpa_mono e ds _ ha)
  | .dict _, _, h => by cases h
theorem dpa_mono {K : Fg} {H H' : Hp} (e : Same H H') : ∀ (ds : List PyData) (vs : List V), DpAll K H vs ds → DpAll K H' vs ds
  | [], _, h => by cases h; exact .nil
  | d :: ds, _, h => by
    cases h with
    | cons h1 h2 => exact .cons (dp_mono e d _ h1) (dpa_mono e ds _ h2)
end
structure Gr (G H G' H' : Hp) : Prop where
  gg : Same G G'
  gh : Same G' H'
  hh : Same H H'
  fr : ∀ p, G p = none → H p ≠ none → G' p = none
theorem Gr.refl {G H : Hp} (s : Same G H) : Gr G H G H := ⟨Same.refl G, s, Same.refl H, fun _ h _ => h⟩
theorem Gr.trans {G H G1 H1 G2 H2 : Hp} (a : Gr G H G1 H1) (b : Gr G1 H1 G2 H2) : Gr G H G2 H2 :=
  ⟨a.gg.trans b.gg, b.gh, a.hh.trans b.hh, fun p h1 h2 => b.fr p (a.fr p h1 h2) fun z => by
    cases q : H p with
    | none => exact h2 q
    | some o =>
      rw [a.hh p o q] at z
      cases z⟩
theorem same_upd {H : Hp} {p : Addr} {o : HO} (h : H p = none) : Same H (upd H p o) := fun b u e => by
  rw [upd_ne (ne_of_none e h)]
  exact e
theorem Gr.alloc {G H : Hp} {p : Addr} {o : HO} (s : Same G H) (h : H p = none) : Gr G H (upd G p o) (upd H p o) := by
  refine ⟨same_upd (s.free h), fun b u e => ?_, same_upd h, fun q h1 h2 => ?_⟩
  · by_cases hb : b = p
    · subst hb
      rw [upd_same] at e ⊢
      exact e
    · rw [upd_ne hb] at e ⊢
      exact s b u e
  · have hq : q ≠ p := fun z => h2 (z ▸ h)
    rw [upd_ne hq]
    exact h1
/-- only the heap grows by an object that is not frozen -/
theorem Gr.side {G H : Hp} {p : Addr} {o : HO} (s : Same G H) (h : H p = none) : Gr G H G (upd H p o) :=
  ⟨Same.refl G, s.trans (same_upd h), same_upd h, fun _ h1 _ => h1⟩
def un (G1 G2 : Hp) : Hp := fun p => match G1 p with
  | some o => some o
  | none => G2 p
theorem un_l {G1 G2 : Hp} {p : Addr} {o : HO} (h : G1 p = some o) : un G1 G2 p = some o := by unfold un; rw [h]
theorem un_r {G1 G2 : Hp} {p : Addr} (h : G1 p = none) : un G1 G2 p = G2 p := by unfold un; rw [h]
theorem gr_un {G G1 H G' H' : Hp} (e : Same G G1) (s : Same G1 H) (g : Gr G H G' H') : Gr G1 H (un G1 G') H' ∧ Same G' (un G1 G') := by
  refine ⟨⟨fun b o h => un_l h, fun b o h => ?_, g.hh, fun p h1 h2 => ?_⟩, fun b o h => ?_⟩
  · cases q : G1 b with
    | none => rw [un_r q] at h; exact g.gh b o h
    | some u =>
      rw [un_l q] at h
      cases h
      exact g.hh b _ (s b _ q)
  · rw [un_r h1]
    exact g.fr p (e.free h1) h2
  · cases q : G1 b with
    | none => rw [un_r q]; exact h
    | some u =>
      rw [un_l q]
      have a1 := g.gh b o h
      have a2 := g.hh b u (s b u q)
      rw [a1] at a2
      exact a2.symm
/-! what is known of a value, growing heaps kept -/
structure Pr where
  r : V → Hp → Prop
  m : ∀ v G G', Same G G' → r v G → r v G'
def D (K : Fg) (d : PyData) : Pr := ⟨fun v G => Dp K G v d, fun v _ _ e h => dp_mono e d v h⟩
def Rf (p : Addr) : Pr := ⟨fun v _ => v = .ref p, fun _ _ _ _ h => h⟩
def Ev (te : TE) (σ : L2.St) (G : Hp) (R : Pr) : Prop := ∀ H, Same G H → ∀ Q : VK, (∀ v G' H', Gr G H G' H' → R.r v G' → Q v H') → te σ H Q
def EvT (tt : TT) (σ : L2.St) (G : Hp) (b : Bool) : Prop := ∀ H, Same G H → ∀ Q : Bool → Hp → Prop, (∀ G' H', Gr G H G' H' → Q b H') → tt σ H Q
def AllR (G : Hp) : List V → List Pr → Prop
  | [], [] => True
  | v :: vs, R :: Rs => R.r v G ∧ AllR G vs Rs
  | _, _ => False
theorem AllR.mono {G G' : Hp} (e : Same G G') : ∀ {vs : List V} {Rs : List Pr}, AllR G vs Rs → AllR G' vs Rs
  | [], [], _ => trivial
  | _ :: _, R :: _, h => ⟨R.m _ _ _ e h.1, AllR.mono e h.2⟩
  | [], _ :: _, h => h.elim
  | _ :: _, [], h => h.elim
def EvA (ta : TA) (σ : L2.St) (G : Hp) (Rs : List Pr) : Prop := ∀ H, Same G H → ∀ Q : List V → Hp → Prop, (∀ vs G' H', Gr G H G' H' → AllR G' vs Rs → Q vs H') → ta σ H Q
section
variable {K : Fg} {σ : L2.St} {G G1 H : Hp} {te ta tb tc : TE} {R A B : Pr} {d e : PyData}
theorem Ev.mono (e : Same G G1) (h : Ev te σ G R) : Ev te σ G1 R := fun H s Q q => h H (e.trans s) Q fun v G' H' g r =>
  q v _ H' (gr_un e s g).1 (R.m _ _ _ (gr_un e s g).2 r)
theorem EvT.mono {tt : TT} {b : Bool} (e : Same G G1) (h : EvT tt σ G b) : EvT tt σ G1 b := fun H s Q q => h H (e.trans s) Q fun G' H' g =>
  q _ H' (gr_un e s g).1
theorem EvA.mono {ta : TA} {Rs : List Pr} (e : Same G G1) (h : EvA ta σ G Rs) : EvA ta σ G1 Rs := fun H s Q q => h H (e.trans s) Q fun v G' H' g r =>
  q v _ H' (gr_un e s g).1 (AllR.mono (gr_un e s g).2 r)
theorem Ev.imp (h : Ev te σ G A) (f : ∀ v G, A.r v G → B.r v G) : Ev te σ G B := fun H s Q q => h H s Q fun v G' H' g r => q v G' H' g (f _ _ r)
theorem Ev.is (h : Ev te σ G (D K d)) (eq : d = e) : Ev te σ G (D K e) := eq ▸ h
theorem EvT.is {tt : TT} {b c : Bool} (h : EvT tt σ G b) (eq : b = c) : EvT tt σ G c := eq ▸ h
theorem ea_nil : EvA tNil σ G [] := fun H s Q q => q [] G H (.refl s) trivial
theorem ea_cons {tr : TA} {Rs : List Pr} (h : Ev te σ G R) (hr : EvA tr σ G Rs) : EvA (tCons te tr) σ G (R :: Rs) := fun H s Q q =>
  h H s _ fun v G1 H1 g1 r1 => (hr.mono g1.gg) H1 g1.gh _ fun vs G2 H2 g2 r2 => q _ G2 H2 (g1.trans g2) ⟨R.m _ _ _ g2.gg r1, r2⟩
/-- a two-place operation on values -/
def Rv (r : R2) (x y : V) (G : Hp) (R : Pr) : Prop := ∀ H, Same G H → ∀ Q : VK, (∀ v G' H', Gr G H G' H' → R.r v G' → Q v H') → r x y H Q
theorem Rv.flat {r : R2} {x y z : V} (h : ∀ H Q, Same G H → Q z H → r x y H Q) (hz : R.r z G) : Rv r x y G R := fun H s Q q => h H Q s (q z G H (.refl s) hz)
theorem ev_op {r : R2} (ha : Ev ta σ G A) (hb : Ev tb σ G B) (hr : ∀ x y G1, Same G G1 → A.r x G1 → B.r y G1 → Rv r x y G1 R) : Ev (tOp r ta tb) σ G R := fun H s Q q =>
  ha H s _ fun x G1 H1 g1 r1 => (hb.mono g1.gg) H1 g1.gh _ fun y G2 H2 g2 r2 => hr x y G2 (g1.gg.trans g2.gg) (A.m _ _ _ g2.gg r1) r2 H2 g2.gh Q fun v G3 H3 g3 r3 => q v G3 H3 ((g1.trans g2).trans g3) r3
theorem ev_un {r : V → Hp → VK → Prop} (ha : Ev ta σ G A) (hr : ∀ x G1, Same G G1 → A.r x G1 → ∀ H, Same G1 H → ∀ Q : VK, (∀ v G' H', Gr G1 H G' H' → R.r v G' → Q v H') → r x H Q) : Ev (tUn r ta) σ G R := fun H s Q q =>
  ha H s _ fun x G1 H1 g1 r1 => hr x G1 g1.gg r1 H1 g1.gh Q fun v G3 H3 g3 r3 => q v G3 H3 (g1.trans g3) r3
theorem dp_int {v : V} {i : Int} (h : Dp K G v (.int i)) : v = .int i := by cases h; rfl
theorem dp_str {v : V} {x : Str} (h : Dp K G v (.str x)) : v = .str x := by cases h; rfl
theorem dp_bl {v : V} {b : Bool} (h : Dp K G v (.bool b)) : v = .bl b := by cases h; rfl
theorem dp_non {v : V} (h : Dp K G v .none) : v = .non := by cases h; rfl
theorem dp_lst {v : V} {ds : List PyData} (h : Dp K G v (.list ds)) : ∃ a xs, v = .ref a ∧ SqL K G a xs ∧ DpAll K G xs ds := by
  cases h with
  | lst h1 h2 => exact ⟨_, _, rfl, h1, h2⟩
theorem dp_tup {v : V} {ds : List PyData} (h : Dp K G v (.tuple ds)) : ∃ a xs, v = .ref a ∧ SqT K G a xs ∧ DpAll K G xs ds := by
  cases h with
  | tup h1 h2 => exact ⟨_, _, rfl, h1, h2⟩
theorem dpa_len : ∀ {xs : List V} {ds : List PyData}, DpAll K G xs ds → xs.length = ds.length
  | _, _, .nil => rfl
  | _, _, .cons _ h => by rw [List.length_cons, List.length_cons, dpa_len h]
theorem dpa_get : ∀ {xs : List V} {ds : List PyData} {i : Nat} {d : PyData}, DpAll K G xs ds → ds[i]? = some d → ∃ v, xs[i]? = some v ∧ Dp K G v d
  | _, _, i, d, .nil, e => by simp at e
  | _, _, 0, d, .cons h _, e => by
    simp at e
    exact ⟨_, rfl, e ▸ h⟩
  | _, _, i + 1, d, .cons _ h, e => by
    simp at e
    obtain ⟨v, h1, h2⟩ := dpa_get h e
    exact ⟨v, by simpa using h1, h2⟩
theorem dpa_app : ∀ {xs ys : List V} {ds es : List PyData}, DpAll K G xs ds → DpAll K G ys es → DpAll K G (xs ++ ys) (ds ++ es)
  | _, _, _, _, .nil, h => h
  | _, _, _, _, .cons h t, h2 => .cons h (dpa_app t h2)
theorem dpa_one {v : V} (h : Dp K G v d) : DpAll K G [v] [d] := .cons h .nil
theorem dpa_take : ∀ {xs : List V} {ds : List PyData} (n : Nat), DpAll K G xs ds → DpAll K G (xs.take n) (ds.take n)
  | _, _, 0, _ => .nil
  | _, _, _ + 1, .nil => .nil
  | _, _, n + 1, .cons h t => .cons h (dpa_take n t)
theorem dpa_drop : ∀ {xs : List V} {ds : List PyData} (n : Nat), DpAll K G xs ds → DpAll K G (xs.drop n) (ds.drop n)
  | _, _, 0, h => h
  | _, _, _ + 1, .nil => .nil
  | _, _, n + 1, .cons _ t => dpa_drop n t
theorem dpa_set {v : V} : ∀ {xs : List V} {ds : List PyData} (n : Nat), Dp K G v d → DpAll K G xs ds → DpAll K G (xs.set n v) (ds.set n d)
  | _, _, _, _, .nil => .nil
  | _, _, 0, h, .cons _ t => .cons h t
  | _, _, n + 1, h, .cons h1 t => .cons h1 (dpa_set n h t)
theorem dpa_ints : ∀ (ns : List Int), DpAll K G (ns.map V.int) (ns.map PyData.int)
  | [] => .nil
  | n :: ns => .cons (.int n) (dpa_ints ns)
theorem dpa_strs : ∀ (ns : List Str), DpAll K G (ns.map V.str) (ns.map PyData.str)
  | [] => .nil
  | n :: ns => .cons (.str n) (dpa_strs ns)
theorem dpa_is_ints : ∀ {ns : List Int} {xs : List V}, DpAll K G xs (ns.map PyData.int) → xs = ns.map V.int
  | [], _, h => by cases h; rfl
  | n :: ns, _, h => by
    cases h with
    | cons h1 h2 =>
      cases h1
      rw [dpa_is_ints h2]
      rfl
theorem dpa_is_strs : ∀ {ns : List Str} {xs : List V}, DpAll K G xs (ns.map PyData.str) → xs = ns.map V.str
  | [], _, h => by cases h; rfl
  | n :: ns, _, h => by
    cases h with
    | cons h1 h2 =>
      cases h1
      rw [dpa_is_strs h2]
      rfl
theorem allR_dpa : ∀ {vs : List V} {ds : List PyData}, AllR G vs (ds.map (D K)) → DpAll K G vs ds
  | [], [], _ => .nil
  | _ :: _, _ :: _, h => .cons h.1 (allR_dpa h.2)
  | [], _ :: _, h => h.elim
  | _ :: _, [], h => h.elim
/-! constants and operations -/
theorem ev_c {v : V} (h : Dp K G v d) : Ev (tC v) σ G (D K d) := fun H s Q q => q v G H (.refl s) h
theorem ev_int {i : Int} : Ev (tC (.int i)) σ G (D K (.int i)) := ev_c (.int i)
theorem ev_str {x : Str} : Ev (tC (.str x)) σ G (D K (.str x)) := ev_c (.str x)
theorem ev_bl {b : Bool} : Ev (tC (.bl b)) σ G (D K (.bool b)) := ev_c (.bl b)
theorem ev_non : Ev (tC .non) σ G (D K .none) := ev_c .non
theorem ev_i0 {g : Int → Int → V} {i j : Int} (ha : Ev ta σ G (D K (.int i))) (hb : Ev tb σ G (D K (.int j))) (hd : ∀ G, Dp K G (g i j) d) : Ev (tOp (rI0 g) ta tb) σ G (D K d) :=
  ev_op ha hb fun x y G1 _ hx hy => by
    cases dp_int hx
    cases dp_int hy
    exact .flat (fun H Q _ q => ⟨i, j, rfl, rfl, q⟩) (hd G1)
theorem ev_i1 {C : Int → Int → Prop} {g : Int → Int → V} {i j : Int} (ha : Ev ta σ G (D K (.int i))) (hb : Ev tb σ G (D K (.int j))) (hc : C i j) (hd : ∀ G, Dp K G (g i j) d) : Ev (tOp (rI C g) ta tb) σ G (D K d) :=
  ev_op ha hb fun x y G1 _ hx hy => by
    cases dp_int hx
    cases dp_int hy
    exact .flat (fun H Q _ q => ⟨i, j, rfl, rfl, hc, q⟩) (hd G1)
theorem ev_add {i j : Int} (ha : Ev ta σ G (D K (.int i))) (hb : Ev tb σ G (D K (.int j))) : Ev (tOp (rI0 fun i j => .int (i + j)) ta tb) σ G (D K (.int (i + j))) := ev_i0 ha hb fun _ => .int _
theorem ev_sub {i j : Int} (ha : Ev ta σ G (D K (.int i))) (hb : Ev tb σ G (D K (.int j))) : Ev (tOp (rI0 fun i j => .int (i - j)) ta tb) σ G (D K (.int (i - j))) := ev_i0 ha hb fun _ => .int _
theorem ev_mul {i j : Int} (ha : Ev ta σ G (D K (.int i))) (hb : Ev tb σ G (D K (.int j))) (hc : CMul i j) : Ev (tOp (rI CMul fun i j => .int (i * j)) ta tb) σ G (D K (.int (i * j))) := ev_i1 ha hb hc fun _ => .int _
theorem ev_mod {i j : Int} (ha : Ev ta σ G (D K (.int i))) (hb : Ev tb σ G (D K (.int j))) (hc : 0 < j) : Ev (tOp (rI (fun _ j => 0 < j) fun i j => .int (i % j)) ta tb) σ G (D K (.int (i % j))) := ev_i1 ha hb hc fun _ => .int _
theorem ev_fdiv {i j : Int} (ha : Ev ta σ G (D K (.int i))) (hb : Ev tb σ G (D K (.int j))) (hc : CDiv i j) : Ev (tOp (rI CDiv fun i j => .int (i / j)) ta tb) σ G (D K (.int (i / j))) := ev_i1 ha hb hc fun _ => .int _
theorem ev_pow {i j : Int} (ha : Ev ta σ G (D K (.int i))) (hb : Ev tb σ G (D K (.int j))) (hc : CPow i j) : Ev (tOp (rI CPow fun i j => .int (i ^ j.toNat)) ta tb) σ G (D K (.int (i ^ j.toNat))) := ev_i1 ha hb hc fun _ => .int _
theorem ev_lt {i j : Int} (ha : Ev ta σ G (D K (.int i))) (hb : Ev tb σ G (D K (.int j))) : Ev (tOp (rI0 fun i j => .bl (decide (i < j))) ta tb) σ G (D K (.bool (decide (i < j)))) := ev_i0 ha hb fun _ => .bl _
theorem ev_le {i j : Int} (ha : Ev ta σ G (D K (.int i))) (hb : Ev tb σ G (D K (.int j))) : Ev (tOp (rI0 fun i j => .bl (decide (i ≤ j))) ta tb) σ G (D K (.bool (decide (i ≤ j)))) := ev_i0 ha hb fun _ => .bl _
theorem ev_gt {i j : Int} (ha : Ev ta σ G (D K (.int i))) (hb : Ev tb σ G (D K (.int j))) : Ev (tOp (rI0 fun i j => .bl (decide (j < i))) ta tb) σ G (D K (.bool (decide (j < i)))) := ev_i0 ha hb fun _ => .bl _
theorem ev_ge {i j : Int} (ha : Ev ta σ G (D K (.int i))) (hb : Ev tb σ G (D K (.int j))) : Ev (tOp (rI0 fun i j => .bl (decide (j ≤ i))) ta tb) σ G (D K (.bool (decide (j ≤ i)))) := ev_i0 ha hb fun _ => .bl _
theorem ev_eqI {i j : Int} (ha : Ev ta σ G (D K (.int i))) (hb : Ev tb σ G (D K (.int j))) : Ev (tOp rEq ta tb) σ G (D K (.bool (decide (i = j)))) :=
  ev_op ha hb fun x y G1 _ hx hy => by
    cases dp_int hx
    cases dp_int hy
    exact .flat (z := .bl (decide (V.int i = V.int j))) (fun H Q _ q => ⟨rfl, q⟩) (by
      have e : decide (V.int i = V.int j) = decide (i = j) := by simp
      show Dp K G1 (.bl (decide (V.int i = V.int j))) (.bool (decide (i = j)))
      rw [e]
      exact .bl _)
theorem ev_neI {i j : Int} (ha : Ev ta σ G (D K (.int i))) (hb : Ev tb σ G (D K (.int j))) : Ev (tOp rNe ta tb) σ G (D K (.bool (!decide (i = j)))) :=
  ev_op ha hb fun x y G1 _ hx hy => by
    cases dp_int hx
    cases dp_int hy
    exact .flat (z := .bl (!decide (V.int i = V.int j))) (fun H Q _ q => ⟨rfl, q⟩) (by
      have e : decide (V.int i = V.int j) = decide (i = j) := by simp
      show Dp K G1 (.bl (!decide (V.int i = V.int j))) (.bool (!decide (i = j)))
      rw [e]
      exact .bl _)
theorem ev_eqS {i j : Str} (ha : Ev ta σ G (D K (.str i))) (hb : Ev tb σ G (D K (.str j))) : Ev (tOp rEq ta tb) σ G (D K (.bool (decide (i = j)))) :=
  ev_op ha hb fun x y G1 _ hx hy => by
    cases dp_str hx
    cases dp_str hy
    exact .flat (z := .bl (decide (V.str i = V.str j))) (fun H Q _ q => ⟨rfl, q⟩) (by
      have e : decide (V.str i = V.str j) = decide (i = j) := by simp
      show Dp K G1 (.bl (decide (V.str i = V.str j))) (.bool (decide (i = j)))
      rw [e]
      exact .bl _)
theorem ev_neS {i j : Str} (ha : Ev ta σ G (D K (.str i))) (hb : Ev tb σ G (D K (.str j))) : Ev (tOp rNe ta tb) σ G (D K (.bool (!decide (i = j)))) :=
  ev_op ha hb fun x y G1 _ hx hy => by
    cases dp_str hx
    cases dp_str hy
    exact .flat (z := .bl (!decide (V.str i = V.str j))) (fun H Q _ q => ⟨rfl, q⟩) (by
      have e : decide (V.str i = V.str j) = decide (i = j) := by simp
      show Dp K G1 (.bl (!decide (V.str i = V.str j))) (.bool (!decide (i = j)))
      rw [e]
      exact .bl _)
theorem ev_eqD {x y : PyData} (ha : Ev ta σ G (D K x)) (hb : Ev tb σ G (D K y)) (h1 : SeqAt.shaped x = true) (h2 : SeqAt.shaped y = true) : Ev (tOp (rEqD K) ta tb) σ G (D K (.bool (PyData.eqv x y))) :=
  ev_op ha hb fun v w G1 _ hx hy => .flat (z := .bl (PyData.eqv x y)) (fun H Q s q => ⟨x, y, dp_mono s _ _ hx, dp_mono s _ _ hy, h1, h2, q⟩) (.bl _)
theorem ev_neD {x y : PyData} (ha : Ev ta σ G (D K x)) (hb : Ev tb σ G (D K y)) (h1 : SeqAt.shaped x = true) (h2 : SeqAt.shaped y = true) : Ev (tOp (rNeD K) ta tb) σ G (D K (.bool (!PyData.eqv x y))) :=
  ev_op ha hb fun v w G1 _ hx hy => .flat (z := .bl (!PyData.eqv x y)) (fun H Q s q => ⟨x, y, dp_mono s _ _ hx, dp_mono s _ _ hy, h1, h2, q⟩) (.bl _)
theorem ev_cat {x y : Str} (ha : Ev ta σ G (D K (.str x))) (hb : Ev tb σ G (D K (.str y))) (h : x.length + y.length ≤ sizeLine) : Ev (tOp (fun x y H Q => ∃ i j, x = .str i ∧ y = .str j ∧ i.length + j.length ≤ sizeLine ∧ Q (.str (i ++ j)) H) ta tb) σ G (D K (.str (x ++ y))) :=
  ev_op ha hb fun v w G1 _ hx hy => by
    cases dp_str hx
    cases dp_str hy
    exact .flat (fun H Q _ q => ⟨x, y, rfl, rfl, h, q⟩) (.str _)
theorem atI_dpa {xs : List V} {ds : List PyData} {i : Int} {d : PyData} (h : DpAll K G xs ds) (e : atI ds i = some d) : ∃ v, atI xs i = some v ∧ Dp K G v d := by
  unfold atI at e ⊢
  rw [dpa_len h]
  cases q : ixN ds.length i with
  | none => rw [q] at e; cases e
  | some j =>
    rw [q] at e
    exact dpa_get h e
theorem ev_ixL {ds : List PyData} {i : Int} (ha : Ev ta σ G (D K (.list ds))) (hb : Ev tb σ G (D K (.int i))) (h : atI ds i = some d) : Ev (tOp (rIxL K) ta tb) σ G (D K d) :=
  ev_op ha hb fun x y G1 _ hx hy => by
    obtain ⟨a, xs, rfl, hs, hd⟩ := dp_lst hx
    cases dp_int hy
    obtain ⟨v, h1, h2⟩ := atI_dpa hd h
    exact .flat (fun H Q s q => ⟨a, xs, i, v, rfl, rfl, s.seq hs, h1, q⟩) h2
theorem ev_ixT {ds : List PyData} {i : Int} (ha : Ev ta σ G (D K (.tuple ds))) (hb : Ev tb σ G (D K (.int i))) (h : atI ds i = some d) : Ev (tOp (rIxT K) ta tb) σ G (D K d) :=
  ev_op ha hb fun x y G1 _ hx hy => by
    obtain ⟨a, xs, rfl, hs, hd⟩ := dp_tup hx
    cases dp_int hy
    obtain ⟨v, h1, h2⟩ := atI_dpa hd h
    exact .flat (fun H Q s q => ⟨a, xs, i, v, rfl, rfl, sm_t s hs, h1, q⟩) h2
theorem ev_ixS {z : Str} {i : Int} {c : Nat} (ha : Ev ta σ G (D K (.str z))) (hb : Ev tb σ G (D K (.int i))) (hz : z.length ≤ sizeLine) (h : atI z.cps.toList i = some c) : Ev (tOp rIxS ta tb) σ G (D K (.str ⟨#[c]⟩)) :=
  ev_op ha hb fun x y G1 _ hx hy => by
    cases dp_str hx
    cases dp_int hy
    exact .flat (fun H Q s q => ⟨z, i, c, rfl, rfl, hz, h, q⟩) (.str _)
/-! displays -/
theorem ev_tupR {ta : TA} {Rs : List Pr} (h : EvA ta σ G Rs) (hl : Rs.length ≤ sizeLine) (hR : ∀ p vs G', Same G G' → AllR G' vs Rs → G' p = some (.tup vs) → R.r (.ref p) G') : Ev (tTup ta) σ G R := fun H s Q q =>
  h H s _ fun vs G1 H1 g1 r1 => by
    have el : ∀ {vs : List V} {Rs : List Pr}, AllR G1 vs Rs → vs.length = Rs.length := by
      intro vs
      induction vs with
      | nil => intro Rs h; cases Rs with
        | nil => rfl
        | cons _ _ => exact h.elim
      | cons v vs ih => intro Rs h; cases Rs with
        | nil => exact h.elim
        | cons _ _ => rw [List.length_cons, List.length_cons, ih h.2]
    refine ⟨by rw [el r1]; exact hl, fun p hp => ?_⟩
    have ga := Gr.alloc (o := .tup vs) g1.gh hp
    exact q _ _ _ (g1.trans ga) (hR p vs _ (g1.gg.trans ga.gg) (AllR.mono ga.gg r1) upd_same)
theorem ev_lstR {ta : TA} {Rs : List Pr} (h : EvA ta σ G Rs) (hl : Rs.length ≤ sizeLine) (hR : ∀ p vs G', Same G G' → AllR G' vs Rs → G' p = some (.lst vs) → R.r (.ref p) G') : Ev (tLst ta) σ G R := fun H s Q q =>
  h H s _ fun vs G1 H1 g1 r1 => by
    have el : ∀ {vs : List V} {Rs : List Pr}, AllR G1 vs Rs → vs.length = Rs.length := by
      intro vs
      induction vs with
      | nil => intro Rs h; cases Rs with
        | nil => rfl
        | cons _ _ => exact h.elim
      | cons v vs ih => intro Rs h; cases Rs with
        | nil => exact h.elim
        | cons _ _ => rw [List.length_cons, List.length_cons, ih h.2]
    refine ⟨by rw [el r1]; exact hl, fun p hp => ?_⟩
    have ga := Gr.alloc (o := .lst vs) g1.gh hp
    exact q _ _ _ (g1.trans ga) (hR p vs _ (g1.gg.trans ga.gg) (AllR.mono ga.gg r1) upd_same)
theorem ev_tup {ta : TA} (ds : List PyData) (h : EvA ta σ G (ds.map (D K))) (hl : ds.length ≤ sizeLine) : Ev (tTup ta) σ G (D K (.tuple ds)) :=
  ev_tupR h (by rw [List.length_map]; exact hl) fun p vs G' _ a e => .tup (SqT.of e) (allR_dpa a)
theorem ev_lst {ta : TA} (ds : List PyData) (h : EvA ta σ G (ds.map (D K))) (hl : ds.length ≤ sizeLine) : Ev (tLst ta) σ G (D K (.list ds)) :=
  ev_lstR h (by rw [List.length_map]; exact hl) fun p vs G' _ a e => .lst (SqL.of e) (allR_dpa a)
theorem sz8 {n : Nat} (h : n ≤ 1000) : n ≤ sizeLine := Nat.le_trans h (by decide)
/-! slots -/
structure Env (n : Nat) (G : Hp) (σ : L2.St) (l : List (Nat × Pr)) : Prop where
  len : σ.length = n
  get : ∀ i R, l.lookup i = some R → ∃ v, σ[i]? = some (some v) ∧ R.r v G
theorem Env.mono {n : Nat} {l : List (Nat × Pr)} (e : Same G G1) (h : Env n G σ l) : Env n G1 σ l :=
  ⟨h.len, fun i R q => let ⟨v, h1, h2⟩ := h.get i R q; ⟨v, h1, R.m _ _ _ e h2⟩⟩
theorem Env.set {n i : Nat} {l : List (Nat × Pr)} {v : V} (h : Env n G σ l) (hi : i < n) (r : R.r v G) : Env n G (σ.set i (some v)) ((i, R) :: l) := by
  refine ⟨by rw [List.length_set]; exact h.len, fun j S q => ?_⟩
  rw [List.lookup_cons] at q
  by_cases hj : j = i
  · subst hj
    simp only [beq_self_eq_true] at q
    cases q
    exact ⟨v, by rw [List.getElem?_set_self (by rw [h.len]; exact hi)], r⟩
  · rw [show (j == i) = false by simpa using hj] at q
    obtain ⟨w, h1, h2⟩ := h.get j S q
    exact ⟨w, by rw [List.getElem?_set_ne (fun z => hj z.symm)]; exact h1, h2⟩
theorem Env.wipe1 {n i : Nat} {l l' : List (Nat × Pr)} (h : Env n G σ l) (hl : ∀ j R, l'.lookup j = some R → l.lookup j = some R ∧ j ≠ i) : Env n G (wipe σ [i]) l' := by
  refine ⟨by rw [wipe_length]; exact h.len, fun j R q => ?_⟩
  obtain ⟨h1, h2⟩ := hl j R q
  obtain ⟨v, h3, h4⟩ := h.get j R h1
  refine ⟨v, ?_, h4⟩
  show (σ.set i none)[j]? = _
  rw [List.getElem?_set_ne (fun z => h2 z.symm)]
  exact h3
/-- fewer facts -/
theorem Env.sub {n : Nat} {l l' : List (Nat × Pr)} (h : Env n G σ l) (hl : ∀ j R, l'.lookup j = some R → l.lookup j = some R) : Env n G σ l' := ⟨h.len, fun j R q => h.get j R (hl j R q)⟩
theorem ev_v {n i : Nat} {l : List (Nat × Pr)} (h : Env n G σ l) (hi : l.lookup i = some R := by rfl) : Ev (tVar i) σ G R := fun H s Q q => by
  obtain ⟨v, h1, h2⟩ := h.get i R hi
  exact ⟨v, h1, q v G H (.refl s) h2⟩
/-! tests -/
theorem et_test {b : Bool} (h : Ev te σ G (D K (.bool b))) : EvT (tTest te) σ G b := fun H s Q q => h H s _ fun v G' H' g r => by
  cases dp_bl r
  exact ⟨b, rfl, q G' H' g⟩
theorem et_B {b : Bool} (h : Ev te σ G (D K (.bool b))) : EvT (tB te) σ G b := fun H s Q q => h H s _ fun v G' H' g r => by
  cases dp_bl r
  exact ⟨b, rfl, q G' H' g⟩
variable {t u : TT}
theorem et_and {a b : Bool} (h1 : EvT t σ G a) (h2 : a = true → EvT u σ G b) : EvT (tAnd t u) σ G (a && b) := fun H s Q q => h1 H s _ fun G1 H1 g1 => by
  cases a with
  | true => exact iteT ((h2 rfl).mono g1.gg H1 g1.gh _ fun G2 H2 g2 => q G2 H2 (g1.trans g2))
  | false => exact iteF (q G1 H1 g1)
theorem et_or {a b : Bool} (h1 : EvT t σ G a) (h2 : a = false → EvT u σ G b) : EvT (tOr t u) σ G (a || b) := fun H s Q q => h1 H s _ fun G1 H1 g1 => by
  cases a with
  | true => exact iteT (q G1 H1 g1)
  | false => exact iteF ((h2 rfl).mono g1.gg H1 g1.gh _ fun G2 H2 g2 => q G2 H2 (g1.trans g2))
theorem et_not {a : Bool} (h1 : EvT t σ G a) : EvT (tNot t) σ G (!a) := fun H s Q q => h1 H s _ fun G1 H1 g1 => q G1 H1 g1
theorem ev_notV {a : Bool} (h : Ev ta σ G (D K (.bool a))) : Ev (tNotV ta) σ G (D K (.bool (!a))) := fun H s Q q => h H s _ fun v G' H' g r => by
  cases dp_bl r
  exact ⟨a, rfl, q _ G' H' g (.bl _)⟩
theorem ev_andV {a b : Bool} (h1 : Ev ta σ G (D K (.bool a))) (h2 : a = true → Ev tb σ G (D K (.bool b))) : Ev (tAndV ta tb) σ G (D K (.bool (a && b))) := fun H s Q q => h1 H s _ fun v G1 H1 g1 r => by
  cases dp_bl r
  refine ⟨a, rfl, ?_⟩
  cases a with
  | true => exact iteT ((h2 rfl).mono g1.gg H1 g1.gh _ fun w G2 H2 g2 r2 => q w G2 H2 (g1.trans g2) r2)
  | false => exact iteF (q _ G1 H1 g1 (.bl _))
theorem ev_orV {a b : Bool} (h1 : Ev ta σ G (D K (.bool a))) (h2 : a = false → Ev tb σ G (D K (.bool b))) : Ev (tOrV ta tb) σ G (D K (.bool (a || b))) := fun H s Q q => h1 H s _ fun v G1 H1 g1 r => by
  cases dp_bl r
  refine ⟨a, rfl, ?_⟩
  cases a with
  | true => exact iteT (q _ G1 H1 g1 (.bl _))
  | false => exact iteF ((h2 rfl).mono g1.gg H1 g1.gh _ fun w G2 H2 g2 r2 => q w G2 H2 (g1.trans g2) r2)
theorem ev_if {b : Bool} (h : EvT t σ G b) (h1 : b = true → Ev ta σ G R) (h2 : b = false → Ev tb σ G R) : Ev (tIf t ta tb) σ G R := fun H s Q q => h H s _ fun G1 H1 g1 => by
  cases b with
  | true => exact iteT ((h1 rfl).mono g1.gg H1 g1.gh _ fun w G2 H2 g2 r2 => q w G2 H2 (g1.trans g2) r2)
  | false => exact iteF ((h2 rfl).mono g1.gg H1 g1.gh _ fun w G2 H2 g2 r2 => q w G2 H2 (g1.trans g2) r2)
theorem ev_chain {r r' : R2} {a b : Bool} (ha : Ev ta σ G A) (hb : Ev tb σ G B) {C : Pr} (hc : Ev tc σ G C) (hr : ∀ x y G1, Same G G1 → A.r x G1 → B.r y G1 → Rv r x y G1 (D K (.bool a)))
    (hr' : a = true → ∀ x y G1, Same G G1 → B.r x G1 → C.r y G1 → Rv r' x y G1 (D K (.bool b))) : Ev (tChain r r' ta tb tc) σ G (D K (.bool (a && b))) := fun H s Q q =>
  ha H s _ fun x G1 H1 g1 r1 => (hb.mono g1.gg) H1 g1.gh _ fun y G2 H2 g2 r2 => hr x y G2 (g1.gg.trans g2.gg) (A.m _ _ _ g2.gg r1) r2 H2 g2.gh _ fun z G3 H3 g3 r3 => by
    cases dp_bl r3
    refine ⟨a, rfl, ?_⟩
    have g123 := (g1.trans g2).trans g3
    cases a with
    | true => exact iteT ((hc.mono g123.gg) H3 g123.gh _ fun w G4 H4 g4 r4 => hr' rfl y w G4 (g123.gg.trans g4.gg) (B.m _ _ _ (g3.gg.trans g4.gg) r2) r4 H4 g4.gh _ fun z G5 H5 g5 r5 => q z G5 H5 ((g123.trans g4).trans g5) r5)
    | false => exact iteF (q _ G3 H3 g123 (.bl _))
theorem rv_i0 {g : Int → Int → V} {i j : Int} {x y : V} (hx : Dp K G x (.int i)) (hy : Dp K G y (.int j)) (hd : ∀ G, Dp K G (g i j) d) : Rv (rI0 g) x y G (D K d) := by
  cases dp_int hx
  cases dp_int hy
  exact .flat (fun H Q _ q => ⟨i, j, rfl, rfl, q⟩) (hd G)
/-! calls -/
def spD {α : Type} (args : α → List Pr) (pre : α → Prop) (res : α → Pr) : Sp := fun vs H Q _ =>
  ∃ (a : α) (G : Hp), Same G H ∧ AllR G vs (args a) ∧ pre a ∧ ∀ v G' H', Gr G H G' H' → (res a).r v G' → Q v H'
theorem ev_call {α : Type} {args : α → List Pr} {pre : α → Prop} {res : α → Pr} (a : α) {E : XK} {ta : TA} {dvs : List V} {Rs Ds : List Pr} (h : EvA ta σ G Rs) (hd : ∀ G, AllR G dvs Ds) (ea : Rs ++ Ds = args a) (hp : pre a) (er : (res a) = R) : Ev (tCall (spD args pre res) dvs E ta) σ G R := fun H s Q q =>
  h H s _ fun vs G1 H1 g1 r1 => by
    have app : ∀ {vs : List V} {Rs : List Pr}, AllR G1 vs Rs → AllR G1 (vs ++ dvs) (Rs ++ Ds) := by
      intro vs
      induction vs with
      | nil => intro Rs h; cases Rs with
        | nil => exact hd G1
        | cons _ _ => exact h.elim
      | cons v vs ih => intro Rs h; cases Rs with
        | nil => exact h.elim
        | cons _ _ => exact ⟨h.1, ih h.2⟩
    exact ⟨a, G1, g1.gh, ea ▸ app r1, hp, fun v G' H' g2 r2 => q v G' H' (g1.trans g2) (er ▸ r2)⟩
theorem ev_call0 {α : Type} {args : α → List Pr} {pre : α → Prop} {res : α → Pr} (a : α) {E : XK} {ta : TA} (h : EvA ta σ G (args a)) (hp : pre a) : Ev (tCall (spD args pre res) [] E ta) σ G (res a) :=
  ev_call a h (Ds := []) (fun _ => trivial) (List.append_nil _) hp rfl
theorem ev_cb {r : List V → Hp → VK → Prop} {ta : TA} {Rs : List Pr} (h : EvA ta σ G Rs) (hr : ∀ vs G1, Same G G1 → AllR G1 vs Rs → ∀ H, Same G1 H → ∀ Q : VK, (∀ v G' H', Gr G1 H G' H' → R.r v G' → Q v H') → r vs H Q) : Ev (tCB r ta) σ G R := fun H s Q q =>
  h H s _ fun vs G1 H1 g1 r1 => hr vs G1 g1.gg r1 H1 g1.gh Q fun v G' H' g2 r2 => q v G' H' (g1.trans g2) r2
end
end OB
set_option Elab.async false
set_option linter.all false
set_option maxRecDepth 100000
set_option maxHeartbeats 4000000
namespace OB
open PySem L2
section
variable {K : Fg} {σ : L2.St} {G G1 H : Hp} {te ta tb tc : TE} {R A B : Pr} {d e : PyData}
theorem Gr.same {G0 H0 G H : Hp} (g : Gr G0 H0 G H) {G' H' : Hp} (h : Gr G H G' H') : Gr G0 H0 G' H' := g.trans h
/-- an object of ours, not frozen, changes -/
theorem Gr.mut {G0 H0 G H : Hp} {p : Addr} {o : HO} (g : Gr G0 H0 G H) (h0 : H0 p = none) (hG : G p = none) : Gr G0 H0 G (upd H p o) :=
  ⟨g.gg, fun b u e => by rw [upd_ne (ne_of_none e hG)]; exact g.gh b u e, fun b u e => by rw [upd_ne (ne_of_none e h0)]; exact g.hh b u e, g.fr⟩
/-- an object of ours is frozen -/
theorem Gr.freeze {G0 H0 G H : Hp} {p : Addr} {o : HO} (g : Gr G0 H0 G H) (h0 : H0 p = none) (hG : G p = none) (hp : H p = some o) : Gr G0 H0 (upd G p o) H := by
  refine ⟨g.gg.trans (same_upd hG), fun b u e => ?_, g.hh, fun q h1 h2 => ?_⟩
  · by_cases hb : b = p
    · subst hb
      rw [upd_same] at e
      cases e
      exact hp
    · rw [upd_ne hb] at e
      exact g.gh b u e
  · have hq : q ≠ p := fun z => h2 (z ▸ h0)
    rw [upd_ne hq]
    exact g.fr q h1 h2
/-- the heap grew, the frozen part stays -/
theorem Gr.grow {G0 H0 G H H' : Hp} (g : Gr G0 H0 G H) (s : Same H H') : Gr G0 H0 G H' := ⟨g.gg, g.gh.trans s, g.hh.trans s, g.fr⟩
theorem same_mut {G H : Hp} {p : Addr} {o : HO} (s : Same G H) (hG : G p = none) : Same G (upd H p o) := fun b u e => by
  rw [upd_ne (ne_of_none e hG)]
  exact s b u e
/-! what is walked -/
def Src (K : Fg) (wi : TI) (σ : L2.St) (G : Hp) (ds : List PyData) : Prop := ∀ H, Same G H → ∀ R : It → Hp → Prop,
  (∀ J G' H' xs, Gr G H G' H' → DpAll K G' xs ds → Walk J ds.length (fun H => Same G' H) (YAt xs) → R J H') → wi σ H R
theorem src_list {ds : List PyData} (h : Ev te σ G (D K (.list ds))) : Src K (iList K te) σ G ds := fun H s R k => h H s _ fun v G' H' g r => by
  obtain ⟨a, xs, rfl, hs, hd⟩ := dp_lst r
  refine ⟨a, rfl, ⟨xs, g.gh.seq hs⟩, k _ G' H' xs g hd ?_⟩
  rw [← dpa_len hd]
  exact walk_list.mono (fun H s => s.seq hs) fun _ _ _ _ _ _ y => y
theorem src_tup {ds : List PyData} (h : Ev te σ G (D K (.tuple ds))) : Src K (iTup K te) σ G ds := fun H s R k => h H s _ fun v G' H' g r => by
  obtain ⟨a, xs, rfl, hs, hd⟩ := dp_tup r
  refine ⟨a, rfl, ⟨xs, sm_t g.gh hs⟩, k _ G' H' xs g hd ?_⟩
  rw [← dpa_len hd]
  exact walk_tup.mono (fun H s => sm_t s hs) fun _ _ _ _ _ _ y => y
def rngD (n : Nat) : List PyData := (List.range n).map fun i => .int (i : Nat)
theorem rngD_len (n : Nat) : (rngD n).length = n := by simp [rngD]
theorem rngD_get {n k : Nat} (h : k < n) : (rngD n)[k]? = some (.int (k : Nat)) := by simp [rngD, h]
theorem dpa_rng (n : Nat) : DpAll K G ((List.range n).map fun i => V.int (i : Nat)) (rngD n) := by
  unfold rngD
  induction List.range n with
  | nil => exact .nil
  | cons a l ih => exact .cons (.int _) ih
theorem src_rng {n : Int} (h : Ev te σ G (D K (.int n))) (h1 : 0 ≤ n) (h2 : n < 2 ^ 62) : Src K (iRng1 (tCons te tNil)) σ G (rngD n.toNat) := fun H s R k => h H s _ fun v G' H' g r => by
  cases dp_int r
  refine ⟨n, rfl, by omega, h2, k _ G' H' _ g (dpa_rng n.toNat) ?_⟩
  rw [rngD_len]
  refine walk_range.mono (fun _ _ => trivial) fun i H x H' hi _ y => ⟨y.1, ?_⟩
  rw [y.2]
  simp [hi]
def sgn (c : Nat) : Str := ⟨#[c]⟩
theorem dpa_sgns (l : List Nat) : DpAll K G (l.map fun c => V.str (sgn c)) (l.map fun c => .str (sgn c)) := by
  induction l with
  | nil => exact .nil
  | cons a l ih => exact .cons (.str _) ih
theorem src_str {z : Str} (h : Ev te σ G (D K (.str z))) : Src K (iStr te) σ G (z.cps.toList.map fun c => .str (sgn c)) := fun H s R k => h H s _ fun v G' H' g r => by
  cases dp_str r
  refine ⟨z, rfl, k _ G' H' _ g (dpa_sgns z.cps.toList) ?_⟩
  rw [List.length_map, Array.length_toList]
  refine walk_str.mono (fun _ _ => trivial) fun i H x H' hi _ y => ⟨y.1, ?_⟩
  obtain ⟨c, h1, h2⟩ := y.2
  rw [h2, List.getElem?_map, Array.getElem?_toList, h1]
  rfl
/-! targets -/
def Tg (g : TG) (σ : L2.St) (G : Hp) (v : V) (σ' : L2.St) : Prop := ∀ H, Same G H → ∀ Q : L2.St → Hp → Prop, Q σ' H → g v σ H Q
theorem tg_name {i : Nat} {v : V} : Tg (gName i) σ G v (σ.set i (some v)) := fun _ _ _ q => q
theorem tg_tup2 {i j : Nat} {v : V} {d1 d2 : PyData} (h : Dp K G v (.tuple [d1, d2])) : ∃ v1 v2, Dp K G v1 d1 ∧ Dp K G v2 d2 ∧ Tg (gTup K 2 (gCons (gName i) (gCons (gName j) gNil))) σ G v ((σ.set i (some v1)).set j (some v2)) := by
  obtain ⟨a, xs, rfl, hs, hd⟩ := dp_tup h
  cases hd with
  | cons h1 hd =>
    cases hd with
    | cons h2 hd =>
      cases hd
      exact ⟨_, _, h1, h2, fun H s Q q => ⟨a, _, rfl, sm_t s hs, rfl, _, _, rfl, _, _, rfl, rfl, q⟩⟩
/-- a list of values, each known -/
def LstOf (K : Fg) (Rs : List Pr) : Pr := ⟨fun v G => ∃ p vs, v = .ref p ∧ SqL K G p vs ∧ AllR G vs Rs, fun _ _ _ e ⟨p, vs, h1, h2, h3⟩ => ⟨p, vs, h1, e.seq h2, AllR.mono e h3⟩⟩
theorem lstOf_D {ds : List PyData} {v : V} (h : (LstOf K (ds.map (D K))).r v G) : (D K (.list ds)).r v G := by
  obtain ⟨p, vs, rfl, h2, h3⟩ := h
  exact .lst h2 (allR_dpa h3)
theorem allR_app : ∀ {vs ws : List V} {Rs Ss : List Pr}, AllR G vs Rs → AllR G ws Ss → AllR G (vs ++ ws) (Rs ++ Ss)
  | [], _, [], _, _, h => h
  | _ :: _, _, _ :: _, _, h1, h2 => ⟨h1.1, allR_app h1.2 h2⟩
  | [], _, _ :: _, _, h, _ => h.elim
  | _ :: _, _, [], _, h, _ => h.elim
theorem allR_len : ∀ {vs : List V} {Rs : List Pr}, AllR G vs Rs → vs.length = Rs.length
  | [], [], _ => rfl
  | _ :: _, _ :: _, h => by rw [List.length_cons, List.length_cons, allR_len h.2]
  | [], _ :: _, h => h.elim
  | _ :: _, [], h => h.elim
theorem filter_take {α : Type} (p : α → Bool) {l : List α} {k : Nat} {x : α} (h : l[k]? = some x) : (l.take (k + 1)).filter p = (l.take k).filter p ++ (if p x = true then [x] else []) := by
  rw [List.take_add_one, h, List.filter_append]
  simp [List.filter_cons]
/-- a list comprehension -/
theorem ev_lcR {wi : TI} {g : TG} {tt : TT} {vs : List Nat} {ds : List PyData} (keep : PyData → Bool) (f : PyData → Pr) (hs : Src K wi σ G ds) (hl : ds.length ≤ 1000)
    (ht : ∀ (k : Nat) d v G', ds[k]? = some d → Same G G' → Dp K G' v d → ∃ σ2, Tg g (wipe σ vs) G' v σ2 ∧ wipe σ2 vs = wipe σ vs ∧ EvT tt σ2 G' (keep d) ∧ (keep d = true → Ev te σ2 G' (f d))) :
    Ev (tLc wi g tt te vs) σ G (LstOf K ((ds.filter keep).map f)) := fun H s Q q => hs H s _ fun J G1 H1 xs g1 hx wk Dd hD => by
  have hG1 : G1 Dd = none := g1.gh.free hD
  refine lc_it wk (fun i H' => ∃ Gi acc, Same G1 Gi ∧ Same Gi H' ∧ Gi Dd = none ∧ (∀ p o, H1 p = some o → H' p = some o) ∧ (∀ p, G1 p = none → H1 p ≠ none → Gi p = none) ∧ H' Dd = some (.lst acc) ∧ AllR Gi acc (((ds.take i).filter keep).map f)) ?_ ?_ ?_ ?_
  · exact ⟨G1, [], Same.refl _, fun b o e => by rw [upd_ne (ne_of_none e hG1)]; exact g1.gh b o e, hG1, fun p o e => by rw [upd_ne (ne_of_none e hD)]; exact e, fun _ h _ => h, upd_same, by simp [AllR]⟩
  · rintro i H' _ ⟨Gi, acc, h1, h2, _⟩
    exact h1.trans h2
  · rintro i x H' H'' hi ⟨Gi, acc, h1, h2, h3, h4, h5, h6, h7⟩ ⟨rfl, hxi⟩
    have hdi : ∃ d, ds[i]? = some d := ⟨ds[i], by simp [hi]⟩
    obtain ⟨d, hd⟩ := hdi
    obtain ⟨v, e1, e2⟩ := dpa_get hx hd
    rw [hxi] at e1
    cases e1
    obtain ⟨σ2, a1, a2, a3, a4⟩ := ht i d x Gi hd (g1.gg.trans h1) (dp_mono h1 _ _ e2)
    refine a1 H'' h2 _ ⟨a2, a3 H'' h2 _ fun G3 H3 g3 => ?_⟩
    have hG3 : G3 Dd = none := g3.fr Dd h3 (by rw [h6]; intro z; cases z)
    have t3 := filter_take keep hd
    cases hk : keep d with
    | true =>
      rw [hk, if_pos rfl] at t3
      refine iteT ((a4 hk).mono g3.gg H3 g3.gh _ fun y G4 H4 g4 r4 => ?_)
      have hG4 : G4 Dd = none := g4.fr Dd hG3 (by rw [g3.hh _ _ h6]; intro z; cases z)
      have hal := allR_len h7
      have hlen : acc.length ≤ ds.length := by
        rw [hal, List.length_map]
        exact Nat.le_trans (List.length_filter_le _ _) (by rw [List.length_take]; exact Nat.min_le_right _ _)
      refine ⟨acc, g4.hh _ _ (g3.hh _ _ h6), Nat.lt_of_le_of_lt (Nat.le_trans hlen hl) (by decide), G4, acc ++ [y], h1.trans (g3.gg.trans g4.gg), same_mut g4.gh hG4, hG4, fun p o e => ?_, fun p z1 z2 => ?_, upd_same, ?_⟩
      · rw [upd_ne (ne_of_none e hD)]
        exact g4.hh _ _ (g3.hh _ _ (h4 p o e))
      · refine g4.fr p (g3.fr p (h5 p z1 z2) fun z => ?_) fun z => ?_
        · cases q : H1 p with
          | none => exact z2 q
          | some o => rw [h4 p o q] at z; cases z
        · cases q : H1 p with
          | none => exact z2 q
          | some o => rw [g3.hh _ _ (h4 p o q)] at z; cases z
      · rw [t3, List.map_append]
        exact allR_app (AllR.mono (g3.gg.trans g4.gg) h7) ⟨r4, trivial⟩
    | false =>
      rw [hk, if_neg Bool.false_ne_true, List.append_nil] at t3
      refine iteF ⟨G3, acc, h1.trans g3.gg, g3.gh, hG3, fun p o e => g3.hh _ _ (h4 p o e), fun p z1 z2 => g3.fr p (h5 p z1 z2) fun z => ?_, g3.hh _ _ h6, ?_⟩
      · cases q : H1 p with
        | none => exact z2 q
        | some o => rw [h4 p o q] at z; cases z
      · rw [t3]
        exact AllR.mono g3.gg h7
  · rintro H' ⟨Gi, acc, h1, h2, h3, h4, h5, h6, h7⟩
    rw [List.take_length] at h7
    have gi : Gr G1 H1 Gi H' := ⟨h1, h2, h4, h5⟩
    have gf := Gr.freeze gi hD h3 h6
    exact q _ _ _ (g1.trans gf) ⟨Dd, acc, rfl, SqL.of upd_same, AllR.mono (same_upd h3) h7⟩
theorem et_yes : EvT tYes σ G true := fun H s Q q => q G H (.refl s)
/-- .. of data, no test -/
theorem ev_lc {wi : TI} {g : TG} {vs : List Nat} {ds : List PyData} (f : PyData → PyData) (hs : Src K wi σ G ds) (hl : ds.length ≤ 1000)
    (ht : ∀ (k : Nat) d v G', ds[k]? = some d → Same G G' → Dp K G' v d → ∃ σ2, Tg g (wipe σ vs) G' v σ2 ∧ wipe σ2 vs = wipe σ vs ∧ Ev te σ2 G' (D K (f d))) :
    Ev (tLc wi g tYes te vs) σ G (D K (.list (ds.map f))) := by
  refine (ev_lcR (fun _ => true) (fun d => D K (f d)) hs hl fun k d v G' h1 h2 h3 => ?_).imp fun v G h => ?_
  · obtain ⟨σ2, a, b, c⟩ := ht k d v G' h1 h2 h3
    exact ⟨σ2, a, b, et_yes, fun _ => c⟩
  · refine lstOf_D (ds := ds.map f) ?_
    rw [List.filter_eq_self.mpr (fun _ _ => rfl)] at h
    rw [List.map_map]
    exact h
theorem ev_lcF {wi : TI} {g : TG} {tt : TT} {vs : List Nat} {ds : List PyData} (keep : PyData → Bool) (f : PyData → PyData) (hs : Src K wi σ G ds) (hl : ds.length ≤ 1000)
    (ht : ∀ (k : Nat) d v G', ds[k]? = some d → Same G G' → Dp K G' v d → ∃ σ2, Tg g (wipe σ vs) G' v σ2 ∧ wipe σ2 vs = wipe σ vs ∧ EvT tt σ2 G' (keep d) ∧ (keep d = true → Ev te σ2 G' (D K (f d)))) :
    Ev (tLc wi g tt te vs) σ G (D K (.list ((ds.filter keep).map f))) := by
  refine (ev_lcR keep (fun d => D K (f d)) hs hl ht).imp fun v G h => ?_
  refine lstOf_D ?_
  rw [List.map_map]
  exact h
theorem wipe_set1 {i : Nat} {v : V} : wipe ((wipe σ [i]).set i (some v)) [i] = wipe σ [i] := by
  show ((σ.set i none).set i (some v)).set i none = σ.set i none
  rw [List.set_set, List.set_set]
theorem wipe_set2 {i j : Nat} (h : i ≠ j) {v w : V} : wipe (((wipe σ [i, j]).set i (some v)).set j (some w)) [i, j] = wipe σ [i, j] := by
  show (((((σ.set j none).set i none).set i (some v)).set j (some w)).set j none).set i none = (σ.set j none).set i none
  apply List.ext_getElem?
  intro k
  simp only [List.getElem?_set, List.length_set]
  by_cases h1 : i = k <;> by_cases h2 : j = k <;> simp_all
/-! built-ins -/
theorem ev_lenL {ds : List PyData} (h : Ev te σ G (D K (.list ds))) : Ev (tCB (fun xs H Q => ∃ p ys, xs = [.ref p] ∧ (SqL K H p ys ∨ SqT K H p ys) ∧ Q (.int ys.length) H) (tCons te tNil)) σ G (D K (.int (ds.length : Nat))) :=
  ev_cb (ea_cons h ea_nil) fun vs G1 _ a H s Q q => by
    match vs, a with
    | [v], ⟨r, _⟩ =>
      obtain ⟨a, xs, rfl, hs, hd⟩ := dp_lst r
      exact ⟨a, xs, rfl, .inl (s.seq hs), q _ G1 H (.refl s) (by rw [dpa_len hd]; exact .int _)⟩
theorem ev_lenT {ds : List PyData} (h : Ev te σ G (D K (.tuple ds))) : Ev (tCB (fun xs H Q => ∃ p ys, xs = [.ref p] ∧ (SqL K H p ys ∨ SqT K H p ys) ∧ Q (.int ys.length) H) (tCons te tNil)) σ G (D K (.int (ds.length : Nat))) :=
  ev_cb (ea_cons h ea_nil) fun vs G1 _ a H s Q q => by
    match vs, a with
    | [v], ⟨r, _⟩ =>
      obtain ⟨a, xs, rfl, hs, hd⟩ := dp_tup r
      exact ⟨a, xs, rfl, .inr (sm_t s hs), q _ G1 H (.refl s) (by rw [dpa_len hd]; exact .int _)⟩
theorem ev_lenS {z : Str} (h : Ev te σ G (D K (.str z))) (hz : z.length ≤ sizeLine) : Ev (tCB (fun xs H Q => ∃ x n, xs = [x] ∧ LenV K x H n ∧ Q (.int n) H) (tCons te tNil)) σ G (D K (.int (z.length : Nat))) :=
  ev_cb (ea_cons h ea_nil) fun vs G1 _ a H s Q q => by
    match vs, a with
    | [v], ⟨r, _⟩ =>
      cases dp_str r
      exact ⟨.str z, z.length, rfl, ⟨hz, rfl⟩, q _ G1 H (.refl s) (.int _)⟩
theorem ev_listL {ds : List PyData} (h : Ev te σ G (D K (.list ds))) : Ev (tCB (fun xs H Q => ∃ p ys, xs = [.ref p] ∧ (SqL K H p ys ∨ SqT K H p ys) ∧ ∀ l, H l = none → Q (.ref l) (upd H l (.lst ys))) (tCons te tNil)) σ G (D K (.list ds)) :=
  ev_cb (ea_cons h ea_nil) fun vs G1 _ a H s Q q => by
    match vs, a with
    | [v], ⟨r, _⟩ =>
      obtain ⟨a, xs, rfl, hs, hd⟩ := dp_lst r
      refine ⟨a, xs, rfl, .inl (s.seq hs), fun l hl => ?_⟩
      have ga := Gr.alloc (o := .lst xs) s hl
      exact q _ _ _ ga (.lst (SqL.of upd_same) (dpa_mono ga.gg _ _ hd))
theorem ev_tupL {ds : List PyData} (h : Ev te σ G (D K (.list ds))) : Ev (tCB (fun xs H Q => ∃ p ys, xs = [.ref p] ∧ ((SqL K H p ys ∧ ∀ l, H l = none → Q (.ref l) (upd H l (.tup ys))) ∨ (SqT K H p ys ∧ Q (.ref p) H))) (tCons te tNil)) σ G (D K (.tuple ds)) :=
  ev_cb (ea_cons h ea_nil) fun vs G1 _ a H s Q q => by
    match vs, a with
    | [v], ⟨r, _⟩ =>
      obtain ⟨a, xs, rfl, hs, hd⟩ := dp_lst r
      refine ⟨a, xs, rfl, .inl ⟨s.seq hs, fun l hl => ?_⟩⟩
      have ga := Gr.alloc (o := .tup xs) s hl
      exact q _ _ _ ga (.tup (SqT.of upd_same) (dpa_mono ga.gg _ _ hd))
theorem ev_tupT {ds : List PyData} (h : Ev te σ G (D K (.tuple ds))) : Ev (tCB (fun xs H Q => ∃ p ys, xs = [.ref p] ∧ ((SqL K H p ys ∧ ∀ l, H l = none → Q (.ref l) (upd H l (.tup ys))) ∨ (SqT K H p ys ∧ Q (.ref p) H))) (tCons te tNil)) σ G (D K (.tuple ds)) :=
  ev_cb (ea_cons h ea_nil) fun vs G1 _ a H s Q q => by
    match vs, a with
    | [v], ⟨r, _⟩ =>
      obtain ⟨a, xs, rfl, hs, hd⟩ := dp_tup r
      exact ⟨a, xs, rfl, .inr ⟨sm_t s hs, q _ G1 H (.refl s) (.tup hs hd)⟩⟩
theorem dpa_is_bls : ∀ {bs : List Bool} {xs : List V}, DpAll K G xs (bs.map PyData.bool) → xs = bs.map V.bl
  | [], _, h => by cases h; rfl
  | n :: ns, _, h => by
    cases h with
    | cons h1 h2 =>
      cases h1
      rw [dpa_is_bls h2]
      rfl
theorem ev_all {bs : List Bool} (h : Ev te σ G (D K (.list (bs.map PyData.bool)))) : Ev (tCB (rAll K) (tCons te tNil)) σ G (D K (.bool (bs.all id))) :=
  ev_cb (ea_cons h ea_nil) fun vs G1 _ a H s Q q => by
    match vs, a with
    | [v], ⟨r, _⟩ =>
      obtain ⟨a, xs, rfl, hs, hd⟩ := dp_lst r
      rw [dpa_is_bls hd] at hs
      exact ⟨a, bs, rfl, s.seq hs, q _ G1 H (.refl s) (.bl _)⟩
theorem ev_min2 {i j : Int} (ha : Ev ta σ G (D K (.int i))) (hb : Ev tb σ G (D K (.int j))) : Ev (tCB (fun xs H Q => ∃ i j, xs = [.int i, .int j] ∧ Q (.int (if j < i then j else i)) H) (tCons ta (tCons tb tNil))) σ G (D K (.int (if j < i then j else i))) :=
  ev_cb (ea_cons ha (ea_cons hb ea_nil)) fun vs G1 _ a H s Q q => by
    match vs, a with
    | [v, w], ⟨r, r2, _⟩ =>
      cases dp_int r
      cases dp_int r2
      exact ⟨i, j, rfl, q _ G1 H (.refl s) (.int _)⟩
theorem ev_strI {i : Int} (h : Ev te σ G (D K (.int i))) (hi : i.natAbs.log2 < 1920) : Ev (tCB (fun xs H Q => ∃ i : Int, xs = [.int i] ∧ i.natAbs.log2 < 1920 ∧ Q (.str (toString i)) H) (tCons te tNil)) σ G (D K (.str (toString i))) :=
  ev_cb (ea_cons h ea_nil) fun vs G1 _ a H s Q q => by
    match vs, a with
    | [v], ⟨r, _⟩ =>
      cases dp_int r
      exact ⟨i, rfl, hi, q _ G1 H (.refl s) (.str _)⟩
theorem ev_join {z : Str} {ys : List Str} (ha : Ev ta σ G (D K (.str z))) (hb : Ev tb σ G (D K (.list (ys.map PyData.str)))) (hl : (ys.map (·.length)).sum + ys.length * z.length ≤ 16777216) :
    Ev (tM1 (fun x xs H Q => ∃ a p, ∃ ys : List Str, x = .str a ∧ xs = [.ref p] ∧ (SqL K H p (ys.map V.str) ∨ SqT K H p (ys.map V.str)) ∧ (ys.map (·.length)).sum + ys.length * a.length ≤ 16777216 ∧ Q (.str (Txt.join a ys)) H) ta tb) σ G (D K (.str (Txt.join z ys))) := fun H s Q q =>
  ha H s _ fun x G1 H1 g1 r1 => by
    cases dp_str r1
    refine ⟨⟨z, rfl⟩, (hb.mono g1.gg) H1 g1.gh _ fun y G2 H2 g2 r2 => ?_⟩
    obtain ⟨a, xs, rfl, hs, hd⟩ := dp_lst r2
    rw [dpa_is_strs hd] at hs
    exact ⟨z, a, ys, rfl, rfl, .inl (g2.gh.seq hs), hl, q _ G2 H2 (g1.trans g2) (.str _)⟩
/-! slices -/
def EvO (to : TO) (σ : L2.St) (G : Hp) (o : Option Int) : Prop := ∀ H, Same G H → ∀ Q : Option Int → Hp → Prop, (∀ G' H', Gr G H G' H' → Q o H') → to σ H Q
theorem eo_none : EvO tNoPart σ G none := fun H s Q q => q G H (.refl s)
theorem eo_some {i : Int} (h : Ev te σ G (D K (.int i))) : EvO (tPart te) σ G (some i) := fun H s Q q => h H s _ fun v G' H' g r => by
  cases dp_int r
  exact ⟨i, rfl, q G' H' g⟩
theorem EvO.mono {to : TO} {o : Option Int} (e : Same G G1) (h : EvO to σ G o) : EvO to σ G1 o := fun H s Q q => h H (e.trans s) Q fun G' H' g => q _ H' (gr_un e s g).1
def cutD (xs : List PyData) (lo hi : Option Int) : List PyData := (xs.drop (HT.sIx xs.length 0 lo)).take (HT.sIx xs.length xs.length hi - HT.sIx xs.length 0 lo)
theorem dpa_cut {xs : List V} {ds : List PyData} {lo hi : Option Int} (hd : DpAll K G xs ds) : DpAll K G (cutV xs lo hi) (cutD ds lo hi) := by
  unfold cutV cutD
  rw [dpa_len hd]
  exact dpa_take _ (dpa_drop _ hd)
theorem ev_slL {tl th : TO} {ds : List PyData} {lo hi : Option Int} (h : Ev te σ G (D K (.list ds))) (h1 : EvO tl σ G lo) (h2 : EvO th σ G hi) : Ev (tSl (rSlL K) te tl th) σ G (D K (.list (cutD ds lo hi))) := fun H s Q q =>
  h H s _ fun x G1 H1 g1 r1 => (h1.mono g1.gg) H1 g1.gh _ fun G2 H2 g2 => (h2.mono (g1.gg.trans g2.gg)) H2 g2.gh _ fun G3 H3 g3 => by
    obtain ⟨a, xs, rfl, hs, hd⟩ := dp_lst r1
    have s3 : Same G1 H3 := (g2.gg.trans g3.gg).trans g3.gh
    refine ⟨a, xs, rfl, s3.seq hs, fun p hp => ?_⟩
    have ga := Gr.alloc (o := .lst (cutV xs lo hi)) g3.gh hp
    exact q _ _ _ (((g1.trans g2).trans g3).trans ga) (.lst (SqL.of upd_same) (dpa_cut (dpa_mono ((g2.gg.trans g3.gg).trans ga.gg) _ _ hd)))
theorem ev_slS {tl th : TO} {z : Str} {lo hi : Option Int} (h : Ev te σ G (D K (.str z))) (h1 : EvO tl σ G lo) (h2 : EvO th σ G hi) (hz : z.length ≤ sizeLine) : Ev (tSl rSlS te tl th) σ G (D K (.str (cutS z lo hi))) := fun H s Q q =>
  h H s _ fun x G1 H1 g1 r1 => (h1.mono g1.gg) H1 g1.gh _ fun G2 H2 g2 => (h2.mono (g1.gg.trans g2.gg)) H2 g2.gh _ fun G3 H3 g3 => by
    cases dp_str r1
    exact ⟨z, rfl, hz, q _ _ _ ((g1.trans g2).trans g3) (.str _)⟩
/-! statements -/
variable {n i : Nat} {l : List (Nat × Pr)} {Dn : Ends} {G0 H0 : Hp} {t u : TS} {tt : TT}
theorem w_asg (E : Env n G σ l) (g : Gr G0 H0 G H) (h : Ev te σ G R) (hi : i < n) (k : ∀ σ' G' H', Env n G' σ' ((i, R) :: l) → Gr G0 H0 G' H' → Gr G H G' H' → Dn.nx σ' H') : tAsg te (gName i) Dn σ H :=
  h H g.gh _ fun v G' H' g' r => k _ G' H' ((E.mono g'.gg).set hi r) (g.trans g') g'
theorem w_ret (g : Gr G0 H0 G H) (h : Ev te σ G R) (k : ∀ v G' H', Gr G0 H0 G' H' → R.r v G' → Dn.rt v H') : tRet te Dn σ H :=
  h H g.gh _ fun v G' H' g' r => k v G' H' (g.trans g') r
theorem w_if {b : Bool} (E : Env n G σ l) (g : Gr G0 H0 G H) (h : EvT tt σ G b) (k1 : b = true → ∀ G' H', Env n G' σ l → Gr G0 H0 G' H' → Gr G H G' H' → t Dn σ H') (k2 : b = false → ∀ G' H', Env n G' σ l → Gr G0 H0 G' H' → Gr G H G' H' → u Dn σ H') : tIfS tt t u Dn σ H :=
  h H g.gh _ fun G' H' g' => by
    cases b with
    | true => exact iteT (k1 rfl G' H' (E.mono g'.gg) (g.trans g') g')
    | false => exact iteF (k2 rfl G' H' (E.mono g'.gg) (g.trans g') g')
/-- the test is read over the whole heap, the frozen part stays -/
theorem w_ifF {b : Bool} (h : EvT tt σ H b) (k1 : b = true → ∀ H', Same H H' → t Dn σ H') (k2 : b = false → ∀ H', Same H H' → u Dn σ H') : tIfS tt t u Dn σ H :=
  h H (Same.refl H) _ fun G' H' g' => by
    cases b with
    | true => exact iteT (k1 rfl H' g'.hh)
    | false => exact iteF (k2 rfl H' g'.hh)
def Nx (G1 : Hp) (Iv : Nat → L2.St → Hp → Hp → Prop) (k : Nat) : L2.St → Hp → Prop := fun σ3 H3 => ∃ G3, Same G1 G3 ∧ Same G3 H3 ∧ Iv k σ3 G3 H3
theorem w_for {wi : TI} {g : TG} {tb : TS} {ds : List PyData} (sm : Same G H) (hs : Src K wi σ G ds)
    (hb : ∀ G1 H1, Gr G H G1 H1 → ∃ Iv : Nat → L2.St → Hp → Hp → Prop, Iv 0 σ G1 H1 ∧ (∀ (k : Nat) d v σ' G' H', ds[k]? = some d → Same G1 G' → Same G' H' → Dp K G' v d → Iv k σ' G' H' →
      g v σ' H' fun σ2 H2 => tb { Dn with nx := Nx G1 Iv (k + 1), ct := Nx G1 Iv (k + 1), bk := Dn.nx } σ2 H2) ∧ (∀ σ' G' H', Same G1 G' → Same G' H' → Iv ds.length σ' G' H' → Dn.nx σ' H')) : tFor wi g tb Dn σ H := hs H sm _ fun J G1 H1 xs g1 hx wk => by
  obtain ⟨Iv, i0, it, ie⟩ := hb G1 H1 g1
  exact for_it wk (g := g) (tb := tb) (D := Dn) (σ := σ) (H := H1) (Nx G1 Iv) ⟨G1, Same.refl _, g1.gh, i0⟩ (fun i σ' H' _ ⟨G', a, b, _⟩ => a.trans b)
    (fun k x σ' H' H'' hk ⟨G', a, b, c⟩ y => by
      obtain ⟨rfl, hxk⟩ := y
      have hdi : ∃ d, ds[k]? = some d := ⟨ds[k], by simp [hk]⟩
      obtain ⟨d, hd'⟩ := hdi
      obtain ⟨v, e1, e2⟩ := dpa_get hx hd'
      rw [hxk] at e1
      cases e1
      exact it k d x σ' G' H'' hd' a b (dp_mono a _ _ e2) c)
    (fun σ' H' ⟨G', a, b, c⟩ => ie σ' G' H' a b c)
/-- xs.append(e), xs ours -/
theorem w_append {p : Addr} {vs : List V} (E : Env n G σ l) (sm : Same G H) (hi : l.lookup i = some (Rf p)) (hp : H p = some (.lst vs)) (hl : vs.length < sizeLine) (h : Ev te σ G R)
    (k : ∀ v G' H', Gr G H G' H' → R.r v G' → Dn.nx σ (upd H' p (.lst (vs ++ [v])))) : tDrop (tBM K "list" rAppend (tVar i) (tCons te tNil)) Dn σ H := by
  obtain ⟨v, h1, h2⟩ := E.get i _ hi
  cases (show v = .ref p from h2)
  exact ⟨_, h1, .inl ⟨rfl, _, SqL.of hp⟩, h H sm _ fun v G' H' g r => ⟨p, vs, v, rfl, rfl, g.hh _ _ hp, hl, k v G' H' g r⟩⟩
end
end OB
set_option Elab.async false
set_option linter.all false
set_option maxRecDepth 100000
set_option maxHeartbeats 4000000
namespace OB
open PySem L2
/-! defs by their names -/
structure Def (P : Program) (w : World) (K : Fg) (mg : Str → Option Value) (base : Heap) (x : Str) (k : Nat) (ps : List Str) (sp : Sp) : Prop where
  ex : ∃ f fd, FnOk P w K mg base CX0 k f fd ps sp ∧ mg x = some (.ref f) ∧ PySem.W.keepIn K (.ref f) = true ∧ Binds K fd ps []
theorem pe_def {X : Cx} {x : Str} {k m : Nat} {ps : List Str} {sp : Sp} {e : Expr} {es : List Expr} {t : TA} {p pos : Pos} (F : Def X.prog X.w X.K X.mg X.base x k ps sp) (hr : Room m X.A) (hg : Gl X x) (ha : PA X (e :: es) t) (hk : k ≤ m := by decide)
    (hdb : (x == ("__debug__" : Str)) = false := by decide) (he : starEach (e :: es) X.env = (false, eval e X.env) :: starEach es X.env := by rfl) (hpl : (backTo pos (starEach es X.env)).any (·.1) = false := by rfl) :
    PE X (.Call (.Name x p) (e :: es) [] pos) (tCall sp [] E0 t) := by
  obtain ⟨f, fd, h1, h2, h3, h4⟩ := F.ex
  exact pe_call h1 (hr.mono hk) hg h2 h3 h4 .nil pass0 ha hdb he hpl
structure Fd (K : Fg) (mg : Str → Option Value) (x : Str) (st : Stmt) (ps : List Str) : Prop where
  ex : ∃ f fd, Fun K x x st f fd ∧ mg x = some (.ref f) ∧ Binds K fd ps []
def idx : Nat → List Pr → List (Nat × Pr)
  | _, [] => []
  | i, R :: Rs => (i, R) :: idx (i + 1) Rs
theorem idx_lookup : ∀ {Rs : List Pr} {i j : Nat} {R : Pr}, (idx i Rs).lookup j = some R → ∃ k, j = i + k ∧ Rs[k]? = some R
  | [], _, _, _, h => by simp [idx] at h
  | S :: Rs, i, j, R, h => by
    unfold idx at h
    rw [List.lookup_cons] at h
    by_cases hj : j = i
    · subst hj
      simp only [beq_self_eq_true] at h
      exact ⟨0, rfl, by simpa using h⟩
    · rw [show (j == i) = false by simpa using hj] at h
      obtain ⟨k, h1, h2⟩ := idx_lookup h
      exact ⟨k + 1, by omega, by simpa using h2⟩
theorem allR_get {G : Hp} : ∀ {vs : List V} {Rs : List Pr} {k : Nat} {R : Pr}, AllR G vs Rs → Rs[k]? = some R → ∃ v, vs[k]? = some v ∧ R.r v G
  | [], [], _, _, _, e => by simp at e
  | _ :: _, _ :: _, 0, _, h, e => by
    simp at e
    exact ⟨_, rfl, e ▸ h.1⟩
  | _ :: _, _ :: _, k + 1, _, h, e => by
    simp at e
    obtain ⟨v, h1, h2⟩ := allR_get h.2 e
    exact ⟨v, by simpa using h1, h2⟩
  | [], _ :: _, _, _, h, _ => h.elim
  | _ :: _, [], _, _, h, _ => h.elim
theorem env_start {G : Hp} {N : List Str} {vs : List V} {Rs : List Pr} (h : AllR G vs Rs) (hl : Rs.length ≤ N.length) : Env N.length G (L2.start N vs) (idx 0 Rs) := by
  have el := allR_len h
  refine ⟨by unfold L2.start; rw [List.length_append, List.length_map, List.length_replicate]; omega, fun i R q => ?_⟩
  obtain ⟨k, rfl, h2⟩ := idx_lookup q
  obtain ⟨v, h3, h4⟩ := allR_get h h2
  refine ⟨v, ?_, h4⟩
  obtain ⟨hk, hv⟩ := List.getElem?_eq_some_iff.mp h3
  unfold L2.start
  rw [Nat.zero_add, List.getElem?_append_left (by rw [List.length_map]; exact hk), List.getElem?_map, h3]
  rfl
theorem Fd.okD {P : Program} {w : World} {K : Fg} {mg : Str → Option Value} {base : Heap} {x : Str} {st : Stmt} {ps N : List Str} {k : Nat} {α : Type} {args : α → List Pr} {pre : α → Prop} {res : α → Pr} (F : Fd K mg x st ps) (S : FnScope N ps (defScope st)) (hlen : ∀ a, (args a).length = ps.length)
    (hbody : ∀ (f : Addr) (cdv : Value) (A : Around) (outer : List PySem.Env) (s : Shared) (H : Hp) (E : XK) (Q : VK) (a : α) (G : Hp), Room k (A.deeper (PyProof.Rows.envOfC x (defScope st) s.heap.objs.size f cdv)) → Same G H → pre a →
      (∀ v G' H', Gr G H G' H' → (res a).r v G' → Q v H') →
      ∃ t, PSs (cxOf CX0 P w K mg base N x (defScope st) f cdv A outer s H E).nox (defBody st) t ∧ ∀ σ, Env N.length G σ (idx 0 (args a)) → t { nx := fun _ H' => Q .non H', rt := Q } σ H) : Def P w K mg base x (k + 1) ps (spD args pre res) := by
  obtain ⟨f, fd, h1, h2, h3⟩ := F.ex
  have hn : ps.length ≤ N.length := by
    have := S.pre
    have e := congrArg List.length this
    rw [List.length_take] at e
    omega
  refine ⟨f, fd, h1.ok S (fun vs H Q E h => ?_) (fun cdv A outer s H vs Q E hr h => ?_), h2, h1.kp, h3⟩
  · obtain ⟨a, G, _, h, _⟩ := h
    rw [allR_len h, hlen a]
  · obtain ⟨a, G, sm, al, pr, k⟩ := h
    obtain ⟨t, ht, hw⟩ := hbody f cdv A outer s H E Q a G hr sm pr k
    exact ⟨t, ht, hw _ (env_start al (by rw [hlen a]; exact hn))⟩
/-- one of two ways of walking -/
theorem pi_or {X : Cx} {tg l : Expr} {w1 w2 : TI} (h1 : PI X tg l w1) (h2 : PI X tg l w2) : PI X tg l (fun σ H R => w1 σ H R ∨ w2 σ H R) :=
  ⟨fun pins s σ H R I h => h.elim (fun h => h1.run pins s σ H R I h) fun h => h2.run pins s σ H R I h⟩
section
variable {K : Fg} {σ : L2.St} {G G1 H : Hp} {te ta tb tc : TE} {R A B : Pr} {d e : PyData}
theorem src_orL {w1 w2 : TI} {ds : List PyData} (h : Src K w1 σ G ds) : Src K (fun σ H R => w1 σ H R ∨ w2 σ H R) σ G ds := fun H s R k => .inl (h H s R k)
theorem src_orR {w1 w2 : TI} {ds : List PyData} (h : Src K w2 σ G ds) : Src K (fun σ H R => w1 σ H R ∨ w2 σ H R) σ G ds := fun H s R k => .inr (h H s R k)
theorem rv_le {i j : Int} {x y : V} (hx : Dp K G x (.int i)) (hy : Dp K G y (.int j)) : Rv (rI0 fun i j => .bl (decide (i ≤ j))) x y G (D K (.bool (decide (i ≤ j)))) := rv_i0 hx hy fun _ => .bl _
/-- one sign in a text -/
theorem ev_inS {c : Nat} {z : Str} (ha : Ev ta σ G (D K (.str (sgn c)))) (hb : Ev tb σ G (D K (.str z))) : Ev (tOp (fun x y H Q => ∃ (c : Nat) (z : Str), x = .str ⟨#[c]⟩ ∧ y = .str z ∧ Q (.bl (decide (c ∈ z.cps.toList))) H) ta tb) σ G (D K (.bool (decide (c ∈ z.cps.toList)))) :=
  ev_op ha hb fun x y G1 _ hx hy => by
    cases dp_str hx
    cases dp_str hy
    exact .flat (fun H Q _ q => ⟨c, z, rfl, rfl, q⟩) (.bl _)
end
end OB
set_option Elab.async false
set_option linter.all false
set_option maxRecDepth 100000
set_option maxHeartbeats 4000000
namespace OB
open PySem L2
/-- some thing of a kind, told by a name of its own -/
def PrE {α : Type} (p : α → Prop) (f : α → Pr) : Pr := ⟨fun v G => ∃ a, p a ∧ (f a).r v G, fun v G G' e ⟨a, h1, h2⟩ => ⟨a, h1, (f a).m v G G' e h2⟩⟩
section
variable {K : Fg} {σ : L2.St} {G G1 H : Hp} {te ta tb tc : TE} {R A B : Pr} {d e : PyData} {n i : Nat} {l : List (Nat × Pr)} {Dn : Ends} {G0 H0 : Hp} {t u : TS} {tt : TT}
theorem Env.open {α : Type} {p : α → Prop} {f : α → Pr} (h : Env n G σ ((i, PrE p f) :: l)) : ∃ a, p a ∧ Env n G σ ((i, f a) :: l) := by
  obtain ⟨v, h1, a, h2, h3⟩ := h.get i (PrE p f) (by simp)
  refine ⟨a, h2, h.len, fun j S q => ?_⟩
  rw [List.lookup_cons] at q
  by_cases hj : j = i
  · subst hj
    simp only [beq_self_eq_true] at q
    cases q
    exact ⟨v, h1, h3⟩
  · rw [show (j == i) = false by simpa using hj] at q
    exact h.get j S (by rw [List.lookup_cons, show (j == i) = false by simpa using hj]; exact q)
theorem Env.nil (h : Env n G σ l) : Env n G σ [] := ⟨h.len, fun _ _ q => by cases q⟩
theorem Env.pick {l' : List (Nat × Pr)} (h : Env n G σ l) (h' : Env n G σ l') (hi : l.lookup i = some R := by rfl) : Env n G σ ((i, R) :: l') := by
  refine ⟨h.len, fun j S q => ?_⟩
  rw [List.lookup_cons] at q
  by_cases hj : j = i
  · subst hj
    simp only [beq_self_eq_true] at q
    cases q
    exact h.get j R hi
  · rw [show (j == i) = false by simpa using hj] at q
    exact h'.get j S q
theorem Ev.ex {α : Type} {p : α → Prop} {f : α → Pr} (a : α) (hp : p a) (h : Ev te σ G (f a)) : Ev te σ G (PrE p f) := h.imp fun v G r => ⟨a, hp, r⟩
theorem w_next (h : Dn.nx σ H) : tNext Dn σ H := h
theorem w_seq (h : t { Dn with nx := u Dn } σ H) : tSeq t u Dn σ H := h
/-! assignments to several names -/
/-- a, b, c, d = a list -/
theorem w_unl2 {i j : Nat} {p : Int → Int → Prop} {P : PyData → Prop} (E : Env n G σ l) (g : Gr G0 H0 G H) (h : Ev te σ G (PrE P (D K))) (hi : i < n) (hj : j < n) (hP : ∀ d, P d → ∃ a b, d = .list [.int a, .int b] ∧ p a b)
    (k : ∀ a b, p a b → ∀ σ' G' H', Env n G' σ' ((j, D K (.int b)) :: (i, D K (.int a)) :: l) → Gr G0 H0 G' H' → Gr G H G' H' → Dn.nx σ' H') : tAsg te (gUnl K 2 (gCons (gName i) (gCons (gName j) gNil))) Dn σ H :=
  h H g.gh _ fun v G' H' g' r => by
    obtain ⟨d, h1, h2⟩ := r
    obtain ⟨a, b, rfl, hp⟩ := hP d h1
    obtain ⟨q, xs, rfl, hs, hd⟩ := dp_lst h2
    cases hd with
    | cons x1 hd =>
      cases hd with
      | cons x2 hd =>
        cases hd
        exact ⟨q, _, rfl, g'.gh.seq hs, rfl, _, _, rfl, _, _, rfl, rfl, k a b hp _ G' H' (((E.mono g'.gg).set hi x1).set hj x2) (g.trans g') g'⟩
theorem w_unl4 {i j i' j' : Nat} {p : Int → Int → Int → Int → Prop} {P : PyData → Prop} (E : Env n G σ l) (g : Gr G0 H0 G H) (h : Ev te σ G (PrE P (D K))) (hi : i < n) (hj : j < n) (hi' : i' < n) (hj' : j' < n) (hP : ∀ d, P d → ∃ a b c e, d = .list [.int a, .int b, .int c, .int e] ∧ p a b c e)
    (k : ∀ a b c e, p a b c e → ∀ σ' G' H', Env n G' σ' ((j', D K (.int e)) :: (i', D K (.int c)) :: (j, D K (.int b)) :: (i, D K (.int a)) :: l) → Gr G0 H0 G' H' → Gr G H G' H' → Dn.nx σ' H') : tAsg te (gUnl K 4 (gCons (gName i) (gCons (gName j) (gCons (gName i') (gCons (gName j') gNil))))) Dn σ H :=
  h H g.gh _ fun v G' H' g' r => by
    obtain ⟨d, h1, h2⟩ := r
    obtain ⟨a, b, c, e, rfl, hp⟩ := hP d h1
    obtain ⟨q, xs, rfl, hs, hd⟩ := dp_lst h2
    cases hd with
    | cons x1 hd =>
      cases hd with
      | cons x2 hd =>
        cases hd with
        | cons x3 hd =>
          cases hd with
          | cons x4 hd =>
            cases hd
            exact ⟨q, _, rfl, g'.gh.seq hs, rfl, _, _, rfl, _, _, rfl, _, _, rfl, _, _, rfl, rfl, k a b c e hp _ G' H' (((((E.mono g'.gg).set hi x1).set hj x2).set hi' x3).set hj' x4) (g.trans g') g'⟩
/-- a, b = a pair -/
theorem w_tup2 {i j : Nat} {d1 d2 : PyData} (E : Env n G σ l) (g : Gr G0 H0 G H) (h : Ev te σ G (D K (.tuple [d1, d2]))) (hi : i < n) (hj : j < n)
    (k : ∀ σ' G' H', Env n G' σ' ((j, D K d2) :: (i, D K d1) :: l) → Gr G0 H0 G' H' → Gr G H G' H' → Dn.nx σ' H') : tAsg te (gTup K 2 (gCons (gName i) (gCons (gName j) gNil))) Dn σ H :=
  h H g.gh _ fun v G' H' g' r => by
    obtain ⟨v1, v2, x1, x2, tg⟩ := tg_tup2 (σ := σ) (i := i) (j := j) r
    exact tg H' g'.gh _ (k _ G' H' (((E.mono g'.gg).set hi x1).set hj x2) (g.trans g') g')
/-- a, b = e1, e2 -/
theorem w_par {i j : Nat} (E : Env n G σ l) (g : Gr G0 H0 G H) (ha : Ev ta σ G A) (hb : Ev tb σ G B) (hi : i < n) (hj : j < n)
    (k : ∀ σ' G' H', Env n G' σ' ((j, B) :: (i, A) :: l) → Gr G0 H0 G' H' → Gr G H G' H' → Dn.nx σ' H') : tPar i j (tCons ta (tCons tb tNil)) Dn σ H :=
  (ea_cons ha (ea_cons hb ea_nil)) H g.gh _ fun vs G' H' g' r => by
    match vs, r with
    | [v, w], ⟨r1, r2, _⟩ => exact ⟨v, w, rfl, k _ G' H' (((E.mono g'.gg).set hi r1).set hj r2) (g.trans g') g'⟩
/-! loops with a name, with a pair -/
theorem w_forN {wi : TI} {j : Nat} {tb : TS} {ds : List PyData} (sm : Same G H) (hs : Src K wi σ G ds)
    (hb : ∀ G1 H1, Gr G H G1 H1 → ∃ Iv : Nat → L2.St → Hp → Hp → Prop, Iv 0 σ G1 H1 ∧ (∀ (k : Nat) d v σ' G' H', ds[k]? = some d → Same G1 G' → Same G' H' → Dp K G' v d → Iv k σ' G' H' →
      tb { Dn with nx := Nx G1 Iv (k + 1), ct := Nx G1 Iv (k + 1), bk := Dn.nx } (σ'.set j (some v)) H') ∧ (∀ σ' G' H', Same G1 G' → Same G' H' → Iv ds.length σ' G' H' → Dn.nx σ' H')) : tFor wi (gName j) tb Dn σ H := w_for sm hs hb
theorem w_forT {wi : TI} {i j : Nat} {tb : TS} {ds : List PyData} (sm : Same G H) (hs : Src K wi σ G ds) (ht : ∀ d, d ∈ ds → ∃ d1 d2, d = .tuple [d1, d2])
    (hb : ∀ G1 H1, Gr G H G1 H1 → ∃ Iv : Nat → L2.St → Hp → Hp → Prop, Iv 0 σ G1 H1 ∧ (∀ (k : Nat) d1 d2 v1 v2 σ' G' H', ds[k]? = some (.tuple [d1, d2]) → Same G1 G' → Same G' H' → Dp K G' v1 d1 → Dp K G' v2 d2 → Iv k σ' G' H' →
      tb { Dn with nx := Nx G1 Iv (k + 1), ct := Nx G1 Iv (k + 1), bk := Dn.nx } ((σ'.set i (some v1)).set j (some v2)) H') ∧ (∀ σ' G' H', Same G1 G' → Same G' H' → Iv ds.length σ' G' H' → Dn.nx σ' H')) :
    tFor wi (gTup K 2 (gCons (gName i) (gCons (gName j) gNil))) tb Dn σ H := w_for sm hs fun G1 H1 g1 => by
  obtain ⟨Iv, h0, h1, h2⟩ := hb G1 H1 g1
  refine ⟨Iv, h0, fun k d v σ' G' H' hk s1 s2 hd hI => ?_, h2⟩
  obtain ⟨d1, d2, rfl⟩ := ht d (List.mem_of_getElem? hk)
  obtain ⟨v1, v2, x1, x2, tg⟩ := tg_tup2 (σ := σ') (i := i) (j := j) hd
  exact tg H' s2 _ (h1 k d1 d2 v1 v2 σ' G' H' hk s1 s2 x1 x2 hI)
theorem Env.at {v : V} (h : Env n G σ l) (hi : l.lookup i = some R := by rfl) : ∃ v, σ[i]? = some (some v) ∧ R.r v G := h.get i R hi
/-! dicts -/
def keyD : Key → PyData
  | .inl i => .int i
  | .inr x => .str x
theorem dp_key {v : V} {k : Key} (h : Dp K G v (keyD k)) : v = kV k := by
  cases k with
  | inl i => exact dp_int h
  | inr x => exact dp_str h
theorem key_dp (k : Key) : Dp K G (kV k) (keyD k) := by
  cases k with
  | inl i => exact .int i
  | inr x => exact .str x
def OptD (K : Fg) (G : Hp) : Option V → Option PyData → Prop
  | some v, some d => Dp K G v d
  | none, none => True
  | _, _ => False
def DicAt (K : Fg) (G : Hp) (kvs : List (Key × V)) (ks : List Key) (f : Key → Option PyData) : Prop := kvs.map (·.1) = ks ∧ ∀ k, OptD K G (valV kvs k) (f k)
theorem OptD.mono {o : Option V} {q : Option PyData} (e : Same G G1) (h : OptD K G o q) : OptD K G1 o q := by
  cases o <;> cases q
  · trivial
  · exact h
  · exact h
  · exact dp_mono e _ _ h
theorem DicAt.mono {kvs : List (Key × V)} {ks : List Key} {f : Key → Option PyData} (e : Same G G1) (h : DicAt K G kvs ks f) : DicAt K G1 kvs ks f := ⟨h.1, fun k => (h.2 k).mono e⟩
def DicP (K : Fg) (ks : List Key) (f : Key → Option PyData) : Pr := ⟨fun v G => ∃ p kvs, v = .ref p ∧ G p = some (.dK kvs) ∧ DicAt K G kvs ks f, fun _ _ _ e ⟨p, kvs, h1, h2, h3⟩ => ⟨p, kvs, h1, e _ _ h2, h3.mono e⟩⟩
theorem OptD.some {o : Option V} (h : OptD K G o (Option.some d)) : ∃ v, o = Option.some v ∧ Dp K G v d := by
  cases o with
  | none => exact h.elim
  | some v => exact ⟨v, rfl, h⟩
theorem OptD.isSome {o : Option V} {q : Option PyData} (h : OptD K G o q) : o.isSome = q.isSome := by
  cases o <;> cases q <;> first | rfl | exact h.elim
theorem ev_dget {ks : List Key} {f : Key → Option PyData} {k : Key} (ha : Ev ta σ G (DicP K ks f)) (hb : Ev tb σ G (D K (keyD k))) (h : f k = some d) : Ev (tDGet ta tb) σ G (D K d) := fun H s Q q =>
  ha H s _ fun x G1 H1 g1 r1 => (hb.mono g1.gg) H1 g1.gh _ fun y G2 H2 g2 r2 => by
    obtain ⟨p, kvs, rfl, hp, hk⟩ := (DicP K ks f).m _ _ _ g2.gg r1
    cases dp_key r2
    obtain ⟨v, e1, e2⟩ := OptD.some (h ▸ hk.2 k)
    exact ⟨p, v, rfl, e1 ▸ DGet.k (g2.gh _ _ hp), q v G2 H2 (g1.trans g2) e2⟩
theorem ev_din {ks : List Key} {f : Key → Option PyData} {k : Key} (hb : Ev tb σ G (D K (keyD k))) (ha : Ev ta σ G (DicP K ks f)) : Ev (tDIn tb ta) σ G (D K (.bool (f k).isSome)) := fun H s Q q =>
  hb H s _ fun y G1 H1 g1 r1 => (ha.mono g1.gg) H1 g1.gh _ fun x G2 H2 g2 r2 => by
    obtain ⟨p, kvs, rfl, hp, hk⟩ := r2
    cases dp_key r1
    exact ⟨p, _, rfl, DGet.k (g2.gh _ _ hp), q _ G2 H2 (g1.trans g2) (by rw [(hk.2 k).isSome]; exact .bl _)⟩
theorem ev_dnotin {ks : List Key} {f : Key → Option PyData} {k : Key} (hb : Ev tb σ G (D K (keyD k))) (ha : Ev ta σ G (DicP K ks f)) : Ev (tDNotIn tb ta) σ G (D K (.bool (!(f k).isSome))) := fun H s Q q =>
  hb H s _ fun y G1 H1 g1 r1 => (ha.mono g1.gg) H1 g1.gh _ fun x G2 H2 g2 r2 => by
    obtain ⟨p, kvs, rfl, hp, hk⟩ := r2
    cases dp_key r1
    exact ⟨p, _, rfl, DGet.k (g2.gh _ _ hp), q _ G2 H2 (g1.trans g2) (by rw [(hk.2 k).isSome]; exact .bl _)⟩
theorem ev_lenD {ks : List Key} {f : Key → Option PyData} (ha : Ev ta σ G (DicP K ks f)) : Ev (tCB (fun xs H Q => ∃ a kvs, xs = [V.ref a] ∧ H a = some (.dK kvs) ∧ Q (.int kvs.length) H) (tCons ta tNil)) σ G (D K (.int (ks.length : Nat))) :=
  ev_cb (ea_cons ha ea_nil) fun vs G1 _ a H s Q q => by
    match vs, a with
    | [v], ⟨r, _⟩ =>
      obtain ⟨p, kvs, rfl, hp, hk⟩ := r
      refine ⟨p, kvs, rfl, s _ _ hp, q _ G1 H (.refl s) ?_⟩
      rw [← hk.1, List.length_map]
      exact .int _
def putF (f : Key → Option PyData) (k : Key) (d : PyData) : Key → Option PyData := fun j => if j = k then some d else f j
def addK (ks : List Key) (k : Key) : List Key := if (ks.any fun j => decide (j = k)) = true then ks else ks ++ [k]
theorem putK_keys (kvs : List (Key × V)) (k : Key) (v : V) : (putK kvs k v).map (·.1) = addK (kvs.map (·.1)) k := by
  unfold putK addK
  have e : ((kvs.map (·.1)).any fun j => decide (j = k)) = kvs.any fun kv => decide (kv.1 = k) := by
    rw [List.any_map]
    rfl
  rw [e]
  by_cases h' : (kvs.any fun kv => decide (kv.1 = k)) = true
  · rw [if_pos h', if_pos h', List.map_map]
    refine List.map_congr_left fun p _ => ?_
    show (if p.1 = k then (p.1, v) else p).1 = p.1
    split <;> rfl
  · rw [if_neg h', if_neg h', List.map_append]
    rfl
theorem DicAt.put {kvs : List (Key × V)} {ks : List Key} {f : Key → Option PyData} {k : Key} {v : V} (h : DicAt K G kvs ks f) (hv : Dp K G v d) : DicAt K G (putK kvs k v) (addK ks k) (putF f k d) := by
  refine ⟨by rw [putK_keys, h.1], fun j => ?_⟩
  rw [valV_put]
  unfold putF
  by_cases hj : j = k
  · rw [if_pos hj, if_pos hj]
    exact hv
  · rw [if_neg hj, if_neg hj]
    exact h.2 j
theorem DicAt.len {kvs : List (Key × V)} {ks : List Key} {f : Key → Option PyData} (h : DicAt K G kvs ks f) : kvs.length = ks.length := by
  rw [← h.1, List.length_map]
/-- d[k] = v, d ours -/
theorem w_dput {p : Addr} {kvs : List (Key × V)} {key : Key} (E : Env n G σ l) (sm : Same G H) (hi : l.lookup i = some (Rf p)) (hp : H p = some (.dK kvs)) (hl : kvs.length < sizeLine) (h : Ev te σ G R) (hk : Ev ta σ G (D K (keyD key)))
    (k : ∀ v G' H', Gr G H G' H' → R.r v G' → Dn.nx σ (upd H' p (.dK (putK kvs key v)))) : sDPut (tVar i) ta te Dn σ H := by
  refine h H sm _ fun v G1 H1 g1 r1 => ?_
  obtain ⟨w, h1, h2⟩ := E.get i _ hi
  cases (show w = .ref p from h2)
  refine ⟨_, h1, (hk.mono g1.gg) H1 g1.gh _ fun y G2 H2 g2 r2 => ?_⟩
  cases dp_key r2
  exact ⟨p, _, rfl, DPut.k (g2.hh _ _ (g1.hh _ _ hp)) hl, k v G2 H2 (g1.trans g2) (R.m _ _ _ g2.gg r1)⟩
/-- xs[i] = v, xs ours -/
theorem w_setL {p : Addr} {vs : List V} {j : Int} {m : Nat} (E : Env n G σ l) (sm : Same G H) (hi : l.lookup i = some (Rf p)) (hp : H p = some (.lst vs)) (h : Ev te σ G R) (hk : Ev ta σ G (D K (.int j))) (hj : ixN vs.length j = some m)
    (k : ∀ v G' H', Gr G H G' H' → R.r v G' → Dn.nx σ (upd H' p (.lst (vs.set m v)))) : tAsg te (gSub (tVar i) ta rSetL) Dn σ H := by
  refine h H sm _ fun v G1 H1 g1 r1 => ?_
  obtain ⟨w, h1, h2⟩ := E.get i _ hi
  cases (show w = .ref p from h2)
  refine ⟨_, h1, (hk.mono g1.gg) H1 g1.gh _ fun y G2 H2 g2 r2 => ?_⟩
  cases dp_int r2
  exact ⟨p, vs, j, m, rfl, rfl, g2.hh _ _ (g1.hh _ _ hp), hj, k v G2 H2 (g1.trans g2) (R.m _ _ _ g2.gg r1)⟩
/-- x = [] , x = {} : ours -/
theorem w_newL (E : Env n G σ l) (g : Gr G0 H0 G H) (hi : i < n) (k : ∀ p σ' H', H p = none → Env n G σ' ((i, Rf p) :: l) → Gr G0 H0 G H' → H' = upd H p (.lst []) → Dn.nx σ' H') : tAsg (tLst tNil) (gName i) Dn σ H :=
  ⟨Nat.zero_le _, fun p hp => k p _ _ hp (E.set hi rfl) (g.trans (Gr.side g.gh hp)) rfl⟩
theorem w_newD (E : Env n G σ l) (g : Gr G0 H0 G H) (hi : i < n) (k : ∀ p σ' H', H p = none → Env n G σ' ((i, Rf p) :: l) → Gr G0 H0 G H' → H' = upd H p (.dK []) → Dn.nx σ' H') : tAsg tDNewK (gName i) Dn σ H :=
  fun p hp => k p _ _ hp (E.set hi rfl) (g.trans (Gr.side g.gh hp)) rfl
theorem DicAt.nil : DicAt K G [] [] (fun _ => none) := ⟨rfl, fun _ => trivial⟩
end
end OB
set_option Elab.async false
set_option linter.all false
set_option maxRecDepth 100000
set_option maxHeartbeats 4000000
namespace OB
open PySem L2
section
variable {K : Fg} {σ : L2.St} {G G1 H : Hp} {te ta tb tc : TE} {R A B : Pr} {d e : PyData} {n i j : Nat} {l : List (Nat × Pr)} {Dn : Ends} {G0 H0 : Hp} {t u v : TS} {tt : TT}
theorem q_asg (i : Nat) (E : Env n G σ l) (g : Gr G0 H0 G H) (h : Ev te σ G R) (hi : i < n) (k : ∀ σ' G' H', Env n G' σ' ((i, R) :: l) → Gr G0 H0 G' H' → Gr G H G' H' → u Dn σ' H') : tSeq (tAsg te (gName i)) u Dn σ H := w_asg E g h hi k
theorem q_if {b : Bool} (E : Env n G σ l) (g : Gr G0 H0 G H) (h : EvT tt σ G b) (k1 : b = true → ∀ G' H', Env n G' σ l → Gr G0 H0 G' H' → Gr G H G' H' → t { Dn with nx := u Dn } σ H') (k2 : b = false → ∀ G' H', Env n G' σ l → Gr G0 H0 G' H' → Gr G H G' H' → u Dn σ H') : tSeq (tIfS tt t tNext) u Dn σ H := w_if E g h k1 k2
theorem q_ifE {b : Bool} (E : Env n G σ l) (g : Gr G0 H0 G H) (h : EvT tt σ G b) (k1 : b = true → ∀ G' H', Env n G' σ l → Gr G0 H0 G' H' → Gr G H G' H' → t { Dn with nx := u Dn } σ H') (k2 : b = false → ∀ G' H', Env n G' σ l → Gr G0 H0 G' H' → Gr G H G' H' → v { Dn with nx := u Dn } σ H') : tSeq (tIfS tt t v) u Dn σ H := w_if E g h k1 k2
theorem q_ifF {b : Bool} (h : EvT tt σ H b) (k1 : b = true → ∀ H', Same H H' → t { Dn with nx := u Dn } σ H') (k2 : b = false → ∀ H', Same H H' → u Dn σ H') : tSeq (tIfS tt t tNext) u Dn σ H := w_ifF h k1 k2
theorem w_ifN {b : Bool} (E : Env n G σ l) (g : Gr G0 H0 G H) (h : EvT tt σ G b) (k1 : b = true → ∀ G' H', Env n G' σ l → Gr G0 H0 G' H' → Gr G H G' H' → t Dn σ H') (k2 : b = false → ∀ G' H', Env n G' σ l → Gr G0 H0 G' H' → Gr G H G' H' → Dn.nx σ H') : tIfS tt t tNext Dn σ H := w_if E g h k1 k2
theorem w_ifFN {b : Bool} (h : EvT tt σ H b) (k1 : b = true → ∀ H', Same H H' → t Dn σ H') (k2 : b = false → ∀ H', Same H H' → Dn.nx σ H') : tIfS tt t tNext Dn σ H := w_ifF h k1 k2
theorem q_unl2 (i j : Nat) {p : Int → Int → Prop} {P : PyData → Prop} (E : Env n G σ l) (g : Gr G0 H0 G H) (h : Ev te σ G (PrE P (D K))) (hi : i < n) (hj : j < n) (hP : ∀ d, P d → ∃ a b, d = .list [.int a, .int b] ∧ p a b)
    (k : ∀ a b, p a b → ∀ σ' G' H', Env n G' σ' ((j, D K (.int b)) :: (i, D K (.int a)) :: l) → Gr G0 H0 G' H' → Gr G H G' H' → u Dn σ' H') : tSeq (tAsg te (gUnl K 2 (gCons (gName i) (gCons (gName j) gNil)))) u Dn σ H := w_unl2 E g h hi hj hP k
theorem q_unl4 (i j i' j' : Nat) {p : Int → Int → Int → Int → Prop} {P : PyData → Prop} (E : Env n G σ l) (g : Gr G0 H0 G H) (h : Ev te σ G (PrE P (D K))) (hi : i < n) (hj : j < n) (hi' : i' < n) (hj' : j' < n) (hP : ∀ d, P d → ∃ a b c e, d = .list [.int a, .int b, .int c, .int e] ∧ p a b c e)
    (k : ∀ a b c e, p a b c e → ∀ σ' G' H', Env n G' σ' ((j', D K (.int e)) :: (i', D K (.int c)) :: (j, D K (.int b)) :: (i, D K (.int a)) :: l) → Gr G0 H0 G' H' → Gr G H G' H' → u Dn σ' H') : tSeq (tAsg te (gUnl K 4 (gCons (gName i) (gCons (gName j) (gCons (gName i') (gCons (gName j') gNil)))))) u Dn σ H := w_unl4 E g h hi hj hi' hj' hP k
theorem q_tup2 (i j : Nat) {d1 d2 : PyData} (E : Env n G σ l) (g : Gr G0 H0 G H) (h : Ev te σ G (D K (.tuple [d1, d2]))) (hi : i < n) (hj : j < n)
    (k : ∀ σ' G' H', Env n G' σ' ((j, D K d2) :: (i, D K d1) :: l) → Gr G0 H0 G' H' → Gr G H G' H' → u Dn σ' H') : tSeq (tAsg te (gTup K 2 (gCons (gName i) (gCons (gName j) gNil)))) u Dn σ H := w_tup2 E g h hi hj k
theorem q_par (i j : Nat) (E : Env n G σ l) (g : Gr G0 H0 G H) (ha : Ev ta σ G A) (hb : Ev tb σ G B) (hi : i < n) (hj : j < n)
    (k : ∀ σ' G' H', Env n G' σ' ((j, B) :: (i, A) :: l) → Gr G0 H0 G' H' → Gr G H G' H' → u Dn σ' H') : tSeq (tPar i j (tCons ta (tCons tb tNil))) u Dn σ H := w_par E g ha hb hi hj k
theorem q_forN {wi : TI} {tb : TS} {ds : List PyData} (sm : Same G H) (hs : Src K wi σ G ds)
    (hb : ∀ G1 H1, Gr G H G1 H1 → ∃ Iv : Nat → L2.St → Hp → Hp → Prop, Iv 0 σ G1 H1 ∧ (∀ (k : Nat) d v σ' G' H', ds[k]? = some d → Same G1 G' → Same G' H' → Dp K G' v d → Iv k σ' G' H' →
      tb { Dn with nx := Nx G1 Iv (k + 1), ct := Nx G1 Iv (k + 1), bk := u Dn } (σ'.set j (some v)) H') ∧ (∀ σ' G' H', Same G1 G' → Same G' H' → Iv ds.length σ' G' H' → u Dn σ' H')) : tSeq (tFor wi (gName j) tb) u Dn σ H := w_forN (Dn := { Dn with nx := u Dn }) sm hs hb
theorem q_forT {wi : TI} {tb : TS} {ds : List PyData} (sm : Same G H) (hs : Src K wi σ G ds) (ht : ∀ d, d ∈ ds → ∃ d1 d2, d = .tuple [d1, d2])
    (hb : ∀ G1 H1, Gr G H G1 H1 → ∃ Iv : Nat → L2.St → Hp → Hp → Prop, Iv 0 σ G1 H1 ∧ (∀ (k : Nat) d1 d2 v1 v2 σ' G' H', ds[k]? = some (.tuple [d1, d2]) → Same G1 G' → Same G' H' → Dp K G' v1 d1 → Dp K G' v2 d2 → Iv k σ' G' H' →
      tb { Dn with nx := Nx G1 Iv (k + 1), ct := Nx G1 Iv (k + 1), bk := u Dn } ((σ'.set i (some v1)).set j (some v2)) H') ∧ (∀ σ' G' H', Same G1 G' → Same G' H' → Iv ds.length σ' G' H' → u Dn σ' H')) :
    tSeq (tFor wi (gTup K 2 (gCons (gName i) (gCons (gName j) gNil))) tb) u Dn σ H := w_forT (Dn := { Dn with nx := u Dn }) sm hs ht hb
theorem q_append {p : Addr} {vs : List V} (E : Env n G σ l) (sm : Same G H) (hi : l.lookup i = some (Rf p)) (hp : H p = some (.lst vs)) (hl : vs.length < sizeLine) (h : Ev te σ G R)
    (k : ∀ v G' H', Gr G H G' H' → R.r v G' → u Dn σ (upd H' p (.lst (vs ++ [v])))) : tSeq (tDrop (tBM K "list" rAppend (tVar i) (tCons te tNil))) u Dn σ H := w_append E sm hi hp hl h k
theorem q_dput {p : Addr} {kvs : List (Key × V)} {key : Key} (E : Env n G σ l) (sm : Same G H) (hi : l.lookup i = some (Rf p)) (hp : H p = some (.dK kvs)) (hl : kvs.length < sizeLine) (h : Ev te σ G R) (hk : Ev ta σ G (D K (keyD key)))
    (k : ∀ v G' H', Gr G H G' H' → R.r v G' → u Dn σ (upd H' p (.dK (putK kvs key v)))) : tSeq (sDPut (tVar i) ta te) u Dn σ H := w_dput E sm hi hp hl h hk k
theorem q_setL {p : Addr} {vs : List V} {j : Int} {m : Nat} (E : Env n G σ l) (sm : Same G H) (hi : l.lookup i = some (Rf p)) (hp : H p = some (.lst vs)) (h : Ev te σ G R) (hk : Ev ta σ G (D K (.int j))) (hj : ixN vs.length j = some m)
    (k : ∀ v G' H', Gr G H G' H' → R.r v G' → u Dn σ (upd H' p (.lst (vs.set m v)))) : tSeq (tAsg te (gSub (tVar i) ta rSetL)) u Dn σ H := w_setL E sm hi hp h hk hj k
theorem q_newL (i : Nat) (E : Env n G σ l) (g : Gr G0 H0 G H) (hi : i < n) (k : ∀ p σ' H', H p = none → Env n G σ' ((i, Rf p) :: l) → Gr G0 H0 G H' → H' = upd H p (.lst []) → u Dn σ' H') : tSeq (tAsg (tLst tNil) (gName i)) u Dn σ H := w_newL E g hi k
theorem q_newD (i : Nat) (E : Env n G σ l) (g : Gr G0 H0 G H) (hi : i < n) (k : ∀ p σ' H', H p = none → Env n G σ' ((i, Rf p) :: l) → Gr G0 H0 G H' → H' = upd H p (.dK []) → u Dn σ' H') : tSeq (tAsg tDNewK (gName i)) u Dn σ H := w_newD E g hi k
theorem q_drop (g : Gr G0 H0 G H) (h : Ev te σ G R) (k : ∀ G' H', Gr G0 H0 G' H' → Gr G H G' H' → u Dn σ H') : tSeq (tDrop te) u Dn σ H := h H g.gh _ fun v G' H' g' r => k G' H' (g.trans g') g'
theorem w_drop (g : Gr G0 H0 G H) (h : Ev te σ G R) (k : ∀ G' H', Gr G0 H0 G' H' → Gr G H G' H' → Dn.nx σ H') : tDrop te Dn σ H := h H g.gh _ fun v G' H' g' r => k G' H' (g.trans g') g'
/-- return x, a list of ours -/
theorem w_retL {p : Addr} {vs : List V} {ds : List PyData} (E : Env n G σ l) (g : Gr G0 H0 G H) (hi : l.lookup i = some (Rf p)) (h0 : H0 p = none) (hG : G p = none) (hp : H p = some (.lst vs)) (hd : DpAll K G vs ds)
    (k : ∀ v G' H', Gr G0 H0 G' H' → Dp K G' v (.list ds) → Dn.rt v H') : tRet (tVar i) Dn σ H := by
  obtain ⟨w, h1, h2⟩ := E.get i _ hi
  cases (show w = .ref p from h2)
  exact ⟨_, h1, k _ _ _ (g.freeze h0 hG hp) (.lst (SqL.of upd_same) (dpa_mono (same_upd hG) _ _ hd))⟩
theorem w_retD {p : Addr} {kvs : List (Key × V)} {ks : List Key} {f : Key → Option PyData} (E : Env n G σ l) (g : Gr G0 H0 G H) (hi : l.lookup i = some (Rf p)) (h0 : H0 p = none) (hG : G p = none) (hp : H p = some (.dK kvs)) (hd : DicAt K G kvs ks f)
    (k : ∀ v G' H', Gr G0 H0 G' H' → (DicP K ks f).r v G' → Dn.rt v H') : tRet (tVar i) Dn σ H := by
  obtain ⟨w, h1, h2⟩ := E.get i _ hi
  cases (show w = .ref p from h2)
  exact ⟨_, h1, k _ _ _ (g.freeze h0 hG hp) ⟨p, kvs, rfl, upd_same, hd.mono (same_upd hG)⟩⟩
/-- a list of ours is frozen: the slot holds data -/
theorem Env.freezeL {p : Addr} {vs : List V} {ds : List PyData} (E : Env n G σ ((i, Rf p) :: l)) (hG : G p = none) (hd : DpAll K G vs ds) : Env n (upd G p (.lst vs)) σ ((i, D K (.list ds)) :: l) := by
  refine ⟨E.len, fun j S q => ?_⟩
  rw [List.lookup_cons] at q
  by_cases hj : j = i
  · subst hj
    simp only [beq_self_eq_true] at q
    cases q
    obtain ⟨w, h1, h2⟩ := E.get j (Rf p) (by simp)
    cases (show w = .ref p from h2)
    exact ⟨_, h1, .lst (SqL.of upd_same) (dpa_mono (same_upd hG) _ _ hd)⟩
  · rw [show (j == i) = false by simpa using hj] at q
    obtain ⟨w, h1, h2⟩ := E.get j S (by rw [List.lookup_cons, show (j == i) = false by simpa using hj]; exact q)
    exact ⟨w, h1, S.m _ _ _ (same_upd hG) h2⟩
theorem Env.freezeD {p : Addr} {kvs : List (Key × V)} {ks : List Key} {f : Key → Option PyData} (E : Env n G σ ((i, Rf p) :: l)) (hG : G p = none) (hd : DicAt K G kvs ks f) : Env n (upd G p (.dK kvs)) σ ((i, DicP K ks f) :: l) := by
  refine ⟨E.len, fun j S q => ?_⟩
  rw [List.lookup_cons] at q
  by_cases hj : j = i
  · subst hj
    simp only [beq_self_eq_true] at q
    cases q
    obtain ⟨w, h1, h2⟩ := E.get j (Rf p) (by simp)
    cases (show w = .ref p from h2)
    exact ⟨_, h1, p, kvs, rfl, upd_same, hd.mono (same_upd hG)⟩
  · rw [show (j == i) = false by simpa using hj] at q
    obtain ⟨w, h1, h2⟩ := E.get j S (by rw [List.lookup_cons, show (j == i) = false by simpa using hj]; exact q)
    exact ⟨w, h1, S.m _ _ _ (same_upd hG) h2⟩
/-- reading a list, a dict of ours over the whole heap -/
theorem Env.seeL {p : Addr} {vs : List V} {ds : List PyData} (E : Env n H σ ((i, Rf p) :: l)) (hp : H p = some (.lst vs)) (hd : DpAll K H vs ds) : Env n H σ ((i, D K (.list ds)) :: l) := by
  refine ⟨E.len, fun j S q => ?_⟩
  rw [List.lookup_cons] at q
  by_cases hj : j = i
  · subst hj
    simp only [beq_self_eq_true] at q
    cases q
    obtain ⟨w, h1, h2⟩ := E.get j (Rf p) (by simp)
    cases (show w = .ref p from h2)
    exact ⟨_, h1, .lst (SqL.of hp) hd⟩
  · rw [show (j == i) = false by simpa using hj] at q
    exact E.get j S (by rw [List.lookup_cons, show (j == i) = false by simpa using hj]; exact q)
theorem Env.seeD {p : Addr} {kvs : List (Key × V)} {ks : List Key} {f : Key → Option PyData} (E : Env n H σ ((i, Rf p) :: l)) (hp : H p = some (.dK kvs)) (hd : DicAt K H kvs ks f) : Env n H σ ((i, DicP K ks f) :: l) := by
  refine ⟨E.len, fun j S q => ?_⟩
  rw [List.lookup_cons] at q
  by_cases hj : j = i
  · subst hj
    simp only [beq_self_eq_true] at q
    cases q
    obtain ⟨w, h1, h2⟩ := E.get j (Rf p) (by simp)
    cases (show w = .ref p from h2)
    exact ⟨_, h1, p, kvs, rfl, hp, hd⟩
  · rw [show (j == i) = false by simpa using hj] at q
    exact E.get j S (by rw [List.lookup_cons, show (j == i) = false by simpa using hj]; exact q)
end
theorem Fd.okS {P : Program} {w : World} {K : Fg} {mg : Str → Option Value} {base : Heap} {x : Str} {st : Stmt} {ps N : List Str} {k : Nat} {sp : Sp} (F : Fd K mg x st ps) (S : FnScope N ps (defScope st)) (len : ∀ vs H Q E, sp vs H Q E → vs.length = ps.length)
    (hbody : ∀ (f : Addr) (cdv : Value) (A : Around) (outer : List PySem.Env) (s : Shared) (H : Hp) (vs : List V) (Q : VK) (E : XK), Room k (A.deeper (PyProof.Rows.envOfC x (defScope st) s.heap.objs.size f cdv)) → sp vs H Q E →
      ∃ t, PSs (cxOf CX0 P w K mg base N x (defScope st) f cdv A outer s H E).nox (defBody st) t ∧ t { nx := fun _ H' => Q .non H', rt := Q } (L2.start N vs) H) : Def P w K mg base x (k + 1) ps sp := by
  obtain ⟨f, fd, h1, h2, h3⟩ := F.ex
  exact ⟨f, fd, h1.ok S len (fun cdv A outer s H vs Q E hr h => hbody f cdv A outer s H vs Q E hr h), h2, h1.kp, h3⟩
end OB
set_option Elab.async false
set_option linter.all false
set_option maxRecDepth 100000
set_option maxHeartbeats 4000000
namespace OB
open PySem PySem.Spec PyProof.Rows L2
section
variable {M : Model} {A : Around} {E : Value → Shared → Prop} {s : Shared} {env : PySem.Env}
theorem callWith_tyKw {pos : Pos} {T : String} {e : Expr} {rest : List Expr} {kws : List Keyword} {Q : Value → Shared → Prop}
    (h : wpAny M A (spliced (backTo pos (starEach (e :: rest) env))) (fun vs s1 => wpAny M A (evalAll ((backToKw pos (keywordEach kws env)).map (·.2)))
      (fun kvs s2 => wpAny M A (call (.type T) vs (((backToKw pos (keywordEach kws env)).filterMap (·.1)).zip kvs)) Q E s2) E s1) E s)
    (he : backTo pos (starEach (e :: rest) env) = (false, eval e env) :: backTo pos (starEach rest env))
    (hplain : (backTo pos (starEach (e :: rest) env)).any (·.1) = false)
    (hall : (backToKw pos (keywordEach kws env)).all (·.1.isSome) = true)
    (hkw : (backToKw pos (keywordEach kws env)).any (·.1.isNone) = false) :
    wpAny M A (callWith pos (.type T) [] (backTo pos (starEach (e :: rest) env)) (backToKw pos (keywordEach kws env))) Q E s := by
  unfold callWith
  have h0 : wpAny M A (evalArgs (.type T) true (backTo pos (starEach (e :: rest) env)) (backToKw pos (keywordEach kws env))) (fun a s1 => wpAny M A (call (.type T) ([] ++ a.pos) a.kw) Q E s1) E s := by
    rw [he] at h ⊢
    exact evalArgs_kwB hall h
  refine wpAny_bind (wpAny_holding (wpAny_mono h0 (fun a s1 h1 => wpAny_bind (wpAny_standAt ?_)) fun _ _ x => x))
  simp only [hplain, hkw, Bool.or_false]
  refine wpAny_bind (wpAny_pure ?_)
  exact wpAny_bind (wpAny_mono h1 (fun r s2 hr => wpAny_bind (wpAny_holding (wpAny_point (wpAny_pure hr)))) fun _ _ x => x)
end
/-- pairs (c + i, item), each new: over a list, over a tuple -/
def IteC (K : Fg) (a : Addr) (c : Int) : It :=
  ⟨fun i H => ∃ (xs : List V) (x : V), SqL K H a xs ∧ xs[i]? = some x, fun i H v H' => ∃ T x, v = .ref T ∧ H T = none ∧ H' = upd H T (.tup [.int (c + (i : Nat)), x]) ∧ ∀ xs, SqL K H a xs → xs[i]? = some x, fun i H => ∃ xs : List V, SqL K H a xs ∧ xs.length = i⟩
def IteT (K : Fg) (a : Addr) (c : Int) : It :=
  ⟨fun i H => ∃ (xs : List V) (x : V), SqT K H a xs ∧ xs[i]? = some x, fun i H v H' => ∃ T x, v = .ref T ∧ H T = none ∧ H' = upd H T (.tup [.int (c + (i : Nat)), x]) ∧ ∀ xs, SqT K H a xs → xs[i]? = some x, fun i H => ∃ xs : List V, SqT K H a xs ∧ xs.length = i⟩
theorem turn_enumC {P : Program} {w : World} {K : Fg} {elts : List Expr} {kk : Nat} {tpos : Pos} (a e it : Addr) (c : Int) :
    Turn P w K (.Tuple elts kk tpos) (IteC K a c) [e, it] e (fun i h => (∃ old, IsEnum h e it (c + (i : Nat)) old) ∧ h.IsListIter it a i ∧ e ≠ it) where
  mem := by simp
  obj := fun i h st b hb => by
    obtain ⟨⟨old, he⟩, ⟨o, ho, hc, hd⟩, _⟩ := st
    have e' : b = e ∨ b = it := by simpa using hb
    rcases e' with z | z
    · rw [z]; exact ⟨_, he, fun v q => nomatch q⟩
    · rw [z]; exact ⟨o, ho, fun v q => by rw [hd] at q; cases q⟩
  keep := fun i h h' st k => let ⟨⟨old, he⟩, hi, hne⟩ := st; ⟨⟨old, k e (by simp) _ he⟩, hi.at fun o q => k it (by simp) o q, hne⟩
  item := by
    intro X hP hw hK hc i pins s σ H E I hf st hg
    subst hP hw hK
    obtain ⟨⟨old, he⟩, hit, hne⟩ := st
    obtain ⟨xs, x, hq, hx⟩ := hg
    obtain ⟨its, rv, p, hz⟩ := I.list hq
    obtain ⟨u, hu, ru⟩ := rv.get hx
    have hel : e < s.heap.objs.size := Heap.lt_size he
    have hil : it < s.heap.objs.size := by obtain ⟨_, q, _⟩ := hit; exact Heap.lt_size q
    have hai : a ≠ it := by
      rintro rfl
      obtain ⟨o, q1, q2, _⟩ := hit
      obtain ⟨o', n', q3, q4, _⟩ := p
      rw [q1] at q3; cases q3
      rw [q2] at q4; injection q4 with q5; exact absurd q5 (by decide)
    have hae : e ≠ a := by
      rintro rfl
      obtain ⟨o', n', q3, q4, _⟩ := p
      have he' : s.heap.get? e = some _ := he
      rw [he'] at q3; cases q3; injection q4 with q5; exact absurd q5 (by decide)
    have hil2 : i < its.toArray.size := by
      obtain ⟨z, _⟩ := List.getElem?_eq_some_iff.mp hu
      simpa using z
    refine wpAny_pyNext_enum_itemC (Draws.list (A := X.A.in1) (I.ok.hd hc) it a hai its.toArray) he ⟨hit, p.isList⟩ hil2 hne (by simp [hne, hae]) fun y h' tk hy ho hst hT hsz hk => ?_
    have hyu : y = u := by
      have e1 : its.toArray[i]? = some u := by simpa using hu
      rw [e1] at hy
      exact (Option.some.inj hy).symm
    subst hyu
    refine ⟨_, rfl, wpAny_letOwnedTupleGo_enum (s := { s with heap := h', toks := tk + 1 }) ho fun h'' he' sb => ?_⟩
    have hT2 : h''.get? s.heap.objs.size = some { cls := .type "tuple", data := .seq #[.int (c + (i : Nat)) tk, y] } := (sb.2 _ (Nat.ne_of_gt hel)).trans hT
    have new : ObjOk X.prog X.w (upd H s.heap.objs.size (.tup [.int (c + (i : Nat)), x])) h'' s.heap.objs.size (.tup [.int (c + (i : Nat)), x]) :=
      ⟨by show 2 ≤ sizeLine; decide, [.int (c + (i : Nat)) tk, y], .cons ⟨_, rfl⟩ (.cons ru .nil), ⟨_, hT2, rfl, _, rfl⟩⟩
    have I1 : Inv X pins σ (upd H s.heap.objs.size (.tup [.int (c + (i : Nat)), x])) { s with heap := h'', toks := tk + 1 } :=
      I.turnedNew (ch := [e, it]) (fun b ob hb q => (sb.2 b (fun z => hb (by simp [z]))).trans (hk b ob (fun z => hb (by simp [z])) (fun z => hb (by simp [z])) q)) hf (Nat.le_refl _) new
    refine ⟨.ref s.heap.objs.size, _, I1, rfl, ⟨_, x, rfl, I.hok.fresh (Nat.le_refl _), rfl, fun ys hy => by rw [I.list_inj hy hq]; exact hx⟩, ⟨⟨y, ?_⟩, hst.1.at fun o q => (sb.2 it (Ne.symm hne)).trans q, hne⟩, fun b hb => ?_⟩
    · have e1 : c + ((i + 1 : Nat) : Int) = c + (i : Int) + 1 := by omega
      rw [e1]; exact he'
    · have hb' : b < s.heap.objs.size := by
        have e' : b = e ∨ b = it := by simpa using hb
        rcases e' with z | z
        · rw [z]; exact hel
        · rw [z]; exact hil
      rw [upd_ne (Nat.ne_of_lt hb')]
      exact (hf b hb).1
  done := by
    intro X hP hw hK hc i pins s σ H E I hf st hg
    subst hP hw hK
    obtain ⟨⟨old, he⟩, hit, hne⟩ := st
    obtain ⟨xs, hq, hx⟩ := hg
    obtain ⟨its, rv, p, hz⟩ := I.list hq
    obtain ⟨f0, f1, f2, f3, f4, f5⟩ := hf it (by simp)
    have hl := rv.length
    have hai : a ≠ it := by
      rintro rfl
      obtain ⟨o, q1, q2, _⟩ := hit
      obtain ⟨o', n', q3, q4, _⟩ := p
      rw [q1] at q3; cases q3
      rw [q2] at q4; injection q4 with q5; exact absurd q5 (by decide)
    have hn : i = its.toArray.size := by simp; omega
    exact wpAny_pyNext_enum_endD (Draws.list (A := X.A.in1) (I.ok.hd hc) it a hai its.toArray) he ⟨hn ▸ hit, p.isList⟩ fun h' eb => ⟨rfl, I.turned (t' := s.toks) (fun b o hb q => eb b o hb q) f0 f1 f3 f4 f5⟩
  self := fun A i s Q E st h => let ⟨⟨_, he⟩, _⟩ := st; wpAny_pyIter_enum he h
theorem turn_enumT {P : Program} {w : World} {K : Fg} {elts : List Expr} {kk : Nat} {tpos : Pos} (a e it : Addr) (c : Int) :
    Turn P w K (.Tuple elts kk tpos) (IteT K a c) [e, it] e (fun i h => (∃ old, IsEnum h e it (c + (i : Nat)) old) ∧ h.IsTupleIter it a i ∧ e ≠ it) where
  mem := by simp
  obj := fun i h st b hb => by
    obtain ⟨⟨old, he⟩, ⟨o, ho, hc, hd⟩, _⟩ := st
    have e' : b = e ∨ b = it := by simpa using hb
    rcases e' with z | z
    · rw [z]; exact ⟨_, he, fun v q => nomatch q⟩
    · rw [z]; exact ⟨o, ho, fun v q => by rw [hd] at q; cases q⟩
  keep := fun i h h' st k => let ⟨⟨old, he⟩, hi, hne⟩ := st; ⟨⟨old, k e (by simp) _ he⟩, hi.at fun o q => k it (by simp) o q, hne⟩
  item := by
    intro X hP hw hK hc i pins s σ H E I hf st hg
    subst hP hw hK
    obtain ⟨⟨old, he⟩, hit, hne⟩ := st
    obtain ⟨xs, x, hq, hx⟩ := hg
    obtain ⟨its, rv, p, hz⟩ := I.tuple hq
    obtain ⟨u, hu, ru⟩ := rv.get hx
    have hel : e < s.heap.objs.size := Heap.lt_size he
    have hil : it < s.heap.objs.size := by obtain ⟨_, q, _⟩ := hit; exact Heap.lt_size q
    have hai : a ≠ it := by
      rintro rfl
      obtain ⟨o, q1, q2, _⟩ := hit
      obtain ⟨o', q3, q4, _⟩ := p
      rw [q1] at q3; cases q3
      rw [q2] at q4; injection q4 with q5; exact absurd q5 (by decide)
    have hae : e ≠ a := by
      rintro rfl
      obtain ⟨o', q3, q4, _⟩ := p
      have he' : s.heap.get? e = some _ := he
      rw [he'] at q3; cases q3; injection q4 with q5; exact absurd q5 (by decide)
    have hil2 : i < its.toArray.size := by
      obtain ⟨z, _⟩ := List.getElem?_eq_some_iff.mp hu
      simpa using z
    refine wpAny_pyNext_enum_itemC (Draws.tuple (A := X.A.in1) (I.ok.hd hc) it a hai its.toArray) he ⟨hit, p⟩ hil2 hne (by simp [hne, hae]) fun y h' tk hy ho hst hT hsz hk => ?_
    have hyu : y = u := by
      have e1 : its.toArray[i]? = some u := by simpa using hu
      rw [e1] at hy
      exact (Option.some.inj hy).symm
    subst hyu
    refine ⟨_, rfl, wpAny_letOwnedTupleGo_enum (s := { s with heap := h', toks := tk + 1 }) ho fun h'' he' sb => ?_⟩
    have hT2 : h''.get? s.heap.objs.size = some { cls := .type "tuple", data := .seq #[.int (c + (i : Nat)) tk, y] } := (sb.2 _ (Nat.ne_of_gt hel)).trans hT
    have new : ObjOk X.prog X.w (upd H s.heap.objs.size (.tup [.int (c + (i : Nat)), x])) h'' s.heap.objs.size (.tup [.int (c + (i : Nat)), x]) :=
      ⟨by show 2 ≤ sizeLine; decide, [.int (c + (i : Nat)) tk, y], .cons ⟨_, rfl⟩ (.cons ru .nil), ⟨_, hT2, rfl, _, rfl⟩⟩
    have I1 : Inv X pins σ (upd H s.heap.objs.size (.tup [.int (c + (i : Nat)), x])) { s with heap := h'', toks := tk + 1 } :=
      I.turnedNew (ch := [e, it]) (fun b ob hb q => (sb.2 b (fun z => hb (by simp [z]))).trans (hk b ob (fun z => hb (by simp [z])) (fun z => hb (by simp [z])) q)) hf (Nat.le_refl _) new
    refine ⟨.ref s.heap.objs.size, _, I1, rfl, ⟨_, x, rfl, I.hok.fresh (Nat.le_refl _), rfl, fun ys hy => by rw [I.tuple_inj hy hq]; exact hx⟩, ⟨⟨y, ?_⟩, hst.1.at fun o q => (sb.2 it (Ne.symm hne)).trans q, hne⟩, fun b hb => ?_⟩
    · have e1 : c + ((i + 1 : Nat) : Int) = c + (i : Int) + 1 := by omega
      rw [e1]; exact he'
    · have hb' : b < s.heap.objs.size := by
        have e' : b = e ∨ b = it := by simpa using hb
        rcases e' with z | z
        · rw [z]; exact hel
        · rw [z]; exact hil
      rw [upd_ne (Nat.ne_of_lt hb')]
      exact (hf b hb).1
  done := by
    intro X hP hw hK hc i pins s σ H E I hf st hg
    subst hP hw hK
    obtain ⟨⟨old, he⟩, hit, hne⟩ := st
    obtain ⟨xs, hq, hx⟩ := hg
    obtain ⟨its, rv, p, hz⟩ := I.tuple hq
    obtain ⟨f0, f1, f2, f3, f4, f5⟩ := hf it (by simp)
    have hl := rv.length
    have hai : a ≠ it := by
      rintro rfl
      obtain ⟨o, q1, q2, _⟩ := hit
      obtain ⟨o', q3, q4, _⟩ := p
      rw [q1] at q3; cases q3
      rw [q2] at q4; injection q4 with q5; exact absurd q5 (by decide)
    have hn : i = its.toArray.size := by simp; omega
    exact wpAny_pyNext_enum_endD (Draws.tuple (A := X.A.in1) (I.ok.hd hc) it a hai its.toArray) he ⟨hn ▸ hit, p⟩ fun h' eb => ⟨rfl, I.turned (t' := s.toks) (fun b o hb q => eb b o hb q) f0 f1 f3 f4 f5⟩
  self := fun A i s Q E st h => let ⟨⟨_, he⟩, _⟩ := st; wpAny_pyIter_enum he h
/-- enumerate(xs, start=1) -/
def iEnumC (K : Fg) (ta tk : TA) : TI := fun σ H R => ta σ H fun vs H1 => tk σ H1 fun zs H2 => ∃ a xs, vs = [.ref a] ∧ zs = [.int 1] ∧ ((SqL K H2 a xs ∧ R (IteC K a 1) H2) ∨ (SqT K H2 a xs ∧ R (IteT K a 1) H2))
theorem pi_enum1 {X : Cx} {e : Expr} {ta tk : TA} {kws : List Keyword} {p pos tpos : Pos} {elts : List Expr} {kk : Nat} (hg : Gl X "enumerate") (hm : X.mg "enumerate" = none) (ha : PA X [e] ta) (hk : PK X kws tk)
    (he : backTo pos (starEach [e] X.env) = (false, eval e X.env) :: backTo pos (starEach [] X.env) := by rfl) (hpl : (backTo pos (starEach [e] X.env)).any (·.1) = false := by rfl)
    (hall : (backToKw pos (keywordEach kws X.env)).all (·.1.isSome) = true := by rfl) (hnone : (backToKw pos (keywordEach kws X.env)).any (·.1.isNone) = false := by rfl) (hks : (backToKw pos (keywordEach kws X.env)).filterMap (·.1) = [Str.ofString "start"] := by rfl) :
    PI X (.Tuple elts kk tpos) (.Call (.Name "enumerate" p) [e] kws pos) (iEnumC X.K ta tk) := by
  refine ⟨fun pins s σ H R I h => ?_⟩
  refine wpAny_Call_Name_kw (ld_blt I hg hm boot_enumerate ?_)
  refine callWith_tyKw (thn (ha.run pos pins s σ H _ I h) fun us s1 ⟨vs, H1, I1, r1, q1⟩ => thn (hk.run pos pins s1 σ H1 _ I1 q1) fun ws s2 ⟨zs, H2, I2, r2, q2⟩ => ?_) he hpl hall hnone
  rw [hks]
  obtain ⟨a, xs, ex, ez, q⟩ := q2
  subst ex ez
  cases r1 with
  | cons r rr =>
    cases rr
    cases r
    cases r2 with
    | cons r' rr' =>
      cases rr'
      obtain ⟨t, rfl⟩ := r'
      rcases q with ⟨hq, q⟩ | ⟨hq, q⟩
      · obtain ⟨its, rv, p', hz⟩ := I2.list hq
        refine enum_begins_start (begins_list a its.toArray) p'.isList (by decide) (by decide) fun h' he hit hsz hk => wpAny_pyIter_enum he ?_
        have I3 : Inv X pins σ H2 { s2 with heap := h' } := I2.kept (t' := s2.toks) hk
        refine ⟨s2.heap.objs.size + 1, [s2.heap.objs.size + 1, s2.heap.objs.size], _, _, H2, rfl, I3, turn_enumC a (s2.heap.objs.size + 1) s2.heap.objs.size 1, ⟨⟨.none, he⟩, ⟨_, hit, rfl, rfl⟩, Nat.succ_ne_self _⟩, fun b hb => ?_, q⟩
        have e' : b = s2.heap.objs.size + 1 ∨ b = s2.heap.objs.size := by simpa using hb
        have hle : s2.heap.objs.size ≤ b := by
          rcases e' with z | z
          · rw [z]; exact Nat.le_add_right _ _
          · rw [z]; exact Nat.le_refl _
        exact I2.fpOk hle (I2.hok.fresh hle)
      · obtain ⟨its, rv, p', hz⟩ := I2.tuple hq
        refine enum_begins_start (begins_tuple a its.toArray) p' (by decide) (by decide) fun h' he hit hsz hk => wpAny_pyIter_enum he ?_
        have I3 : Inv X pins σ H2 { s2 with heap := h' } := I2.kept (t' := s2.toks) hk
        refine ⟨s2.heap.objs.size + 1, [s2.heap.objs.size + 1, s2.heap.objs.size], _, _, H2, rfl, I3, turn_enumT a (s2.heap.objs.size + 1) s2.heap.objs.size 1, ⟨⟨.none, he⟩, ⟨_, hit, rfl, rfl⟩, Nat.succ_ne_self _⟩, fun b hb => ?_, q⟩
        have e' : b = s2.heap.objs.size + 1 ∨ b = s2.heap.objs.size := by simpa using hb
        have hle : s2.heap.objs.size ≤ b := by
          rcases e' with z | z
          · rw [z]; exact Nat.le_add_right _ _
          · rw [z]; exact Nat.le_refl _
        exact I2.fpOk hle (I2.hok.fresh hle)
end OB
set_option Elab.async false
set_option linter.all false
set_option maxRecDepth 100000
set_option maxHeartbeats 400000
namespace OB
open PySem PySem.Spec PyProof.Rows L2
section
variable {K : Fg} {σ : L2.St} {G G1 H : Hp} {te ta tb tc : TE} {R A B : Pr} {d e : PyData} {n i j m : Nat} {l : List (Nat × Pr)} {Dn : Ends} {G0 H0 : Hp} {t u v : TS}
/-! loops over new pairs -/
def SrcP (K : Fg) (wi : TI) (σ : L2.St) (G : Hp) (Rs Ss : List Pr) : Prop := ∀ H, Same G H → ∀ Q : It → Hp → Prop,
  (∀ J G' H' xs ys, Gr G H G' H' → AllR G' xs Rs → AllR G' ys Ss → Walk J Rs.length (fun H => Same G' H) (YPair (fun i => xs[i]?) (fun i => ys[i]?)) → Q J H') → wi σ H Q
def oneTo (K : Fg) (n : Nat) : List Pr := (List.range n).map fun i => D K (.int (1 + (i : Nat)))
theorem allR_oneTo {n : Nat} : AllR G ((List.range n).map fun i => V.int (1 + (i : Nat))) (oneTo K n) := by
  unfold oneTo
  induction List.range n with
  | nil => trivial
  | cons a l ih => exact ⟨.int _, ih⟩
theorem dpa_allR : ∀ {xs : List V} {ds : List PyData}, DpAll K G xs ds → AllR G xs (ds.map (D K))
  | _, _, .nil => trivial
  | _, _, .cons h t => ⟨h, dpa_allR t⟩
theorem srcP_enumL {ds : List PyData} (h : Ev te σ G (D K (.list ds))) : SrcP K (iEnumC K (tCons te tNil) (tCons (tC (.int 1)) tNil)) σ G (oneTo K ds.length) (ds.map (D K)) := fun H s Q k => h H s _ fun v G' H' g r => by
  obtain ⟨a, xs, rfl, hs, hd⟩ := dp_lst r
  have hl := dpa_len hd
  refine ⟨a, xs, rfl, rfl, .inl ⟨g.gh.seq hs, k _ G' H' _ xs g (allR_oneTo (n := ds.length)) (dpa_allR hd) ?_⟩⟩
  have e : (oneTo K ds.length).length = xs.length := by simp [oneTo, hl]
  rw [e]
  refine ⟨fun i H hi q => ⟨xs, xs[i], q.seq hs, by simp [hi]⟩, fun H q => ⟨xs, q.seq hs, rfl⟩, fun i H x H' hi q y => ?_⟩
  obtain ⟨T, z, h1, h2, h3, h4⟩ := y
  exact ⟨T, .int (1 + (i : Nat)), z, h1, h2, h3, by simp [← hl, hi], h4 xs (q.seq hs)⟩
theorem srcP_enumT {ds : List PyData} (h : Ev te σ G (D K (.tuple ds))) : SrcP K (iEnumC K (tCons te tNil) (tCons (tC (.int 1)) tNil)) σ G (oneTo K ds.length) (ds.map (D K)) := fun H s Q k => h H s _ fun v G' H' g r => by
  obtain ⟨a, xs, rfl, hs, hd⟩ := dp_tup r
  have hl := dpa_len hd
  refine ⟨a, xs, rfl, rfl, .inr ⟨sm_t g.gh hs, k _ G' H' _ xs g (allR_oneTo (n := ds.length)) (dpa_allR hd) ?_⟩⟩
  have e : (oneTo K ds.length).length = xs.length := by simp [oneTo, hl]
  rw [e]
  refine ⟨fun i H hi q => ⟨xs, xs[i], sm_t q hs, by simp [hi]⟩, fun H q => ⟨xs, sm_t q hs, rfl⟩, fun i H x H' hi q y => ?_⟩
  obtain ⟨T, z, h1, h2, h3, h4⟩ := y
  exact ⟨T, .int (1 + (i : Nat)), z, h1, h2, h3, by simp [← hl, hi], h4 xs (sm_t q hs)⟩
theorem srcP_enum0 {ds : List PyData} (h : Ev te σ G (D K (.list ds))) : SrcP K (iEnum K (tCons te tNil)) σ G ((rngD ds.length).map (D K)) (ds.map (D K)) := fun H s Q k => h H s _ fun v G' H' g r => by
  obtain ⟨a, xs, rfl, hs, hd⟩ := dp_lst r
  have hl := dpa_len hd
  refine ⟨a, xs, rfl, g.gh.seq hs, k _ G' H' _ xs g (dpa_allR (dpa_rng ds.length)) (dpa_allR hd) ?_⟩
  have e : ((rngD ds.length).map (D K)).length = xs.length := by simp [rngD, hl]
  rw [e]
  refine walk_enum.mono (fun H s => s.seq hs) fun i H x H' hi _ y => ?_
  obtain ⟨T, x1, y1, h1, h2, h3, h4, h5⟩ := y
  exact ⟨T, x1, y1, h1, h2, h3, by cases h4; simp [← hl, hi], h5⟩
theorem srcP_zip {Rs Ss : List Pr} (ha : Ev ta σ G (LstOf K Rs)) (hb : Ev tb σ G (LstOf K Ss)) (hl : Rs.length = Ss.length) : SrcP K (iZip K (tCons ta (tCons tb tNil))) σ G Rs Ss := fun H s Q k =>
  ha H s _ fun v1 Ga Ha ga r1 => (hb.mono ga.gg) Ha ga.gh _ fun v2 G' H' gb r2 => by
      have g := ga.trans gb
      obtain ⟨a, xs, rfl, hs, hx⟩ := (LstOf K Rs).m _ _ _ gb.gg r1
      obtain ⟨b, ys, rfl, ht, hy⟩ := r2
      have l1 := allR_len hx
      have l2 := allR_len hy
      refine ⟨a, b, xs, ys, rfl, g.gh.seq hs, g.gh.seq ht, k _ G' H' xs ys g hx hy ?_⟩
      exact (walk_zip (n := Rs.length) (by omega)).mono (fun H s => ⟨s.seq hs, s.seq ht⟩) fun _ _ _ _ _ _ y => y
theorem w_forP {wi : TI} {g : TG} {Rs Ss : List Pr} {tb : TS} (sm : Same G H) (hs : SrcP K wi σ G Rs Ss)
    (hb : ∀ G1 H1, Gr G H G1 H1 → ∃ Iv : Nat → L2.St → Hp → Hp → Prop, Iv 0 σ G1 H1 ∧ (∀ (k : Nat) R S T v1 v2 σ' G' H', Rs[k]? = some R → Ss[k]? = some S → Same G1 G' → Same G' H' → R.r v1 G' → S.r v2 G' → Iv k σ' G' H' → H' T = none →
      g (.ref T) σ' (upd H' T (.tup [v1, v2])) fun σ2 H2 => tb { Dn with nx := Nx G1 Iv (k + 1), ct := Nx G1 Iv (k + 1), bk := Dn.nx } σ2 H2) ∧ (∀ σ' G' H', Same G1 G' → Same G' H' → Iv Rs.length σ' G' H' → Dn.nx σ' H')) : tFor wi g tb Dn σ H := hs H sm _ fun J G1 H1 xs ys g1 hx hy wk => by
  obtain ⟨Iv, i0, it, ie⟩ := hb G1 H1 g1
  exact for_it wk (g := g) (tb := tb) (D := Dn) (σ := σ) (H := H1) (Nx G1 Iv) ⟨G1, Same.refl _, g1.gh, i0⟩ (fun i σ' H' _ ⟨G', a, b, _⟩ => a.trans b)
    (fun k x σ' H' H'' hk ⟨G', a, b, c⟩ y => by
      obtain ⟨T, v1, v2, rfl, hT, rfl, e1, e2⟩ := y
      have hR : Rs[k]? = some Rs[k] := by simp [hk]
      obtain ⟨v, f1, f2⟩ := allR_get hx hR
      rw [show xs[k]? = some v1 from e1] at f1
      cases f1
      have hlen : ys.length = Ss.length := allR_len hy
      obtain ⟨hk2, _⟩ := List.getElem?_eq_some_iff.mp (show ys[k]? = some v2 from e2)
      have hS : Ss[k]? = some (Ss[k]'(hlen ▸ hk2)) := by simp [hlen ▸ hk2]
      obtain ⟨v, f3, f4⟩ := allR_get hy hS
      rw [show ys[k]? = some v2 from e2] at f3
      cases f3
      exact it k _ _ T v1 v2 σ' G' H' hR hS a b (Pr.m _ _ _ _ a f2) (Pr.m _ _ _ _ a f4) c hT)
    (fun σ' H' ⟨G', a, b, c⟩ => ie σ' G' H' a b c)
/-- the pair's target: two names; a name and a pair -/
theorem g_pair {T : Addr} {v1 v2 : V} {Q : L2.St → Hp → Prop} (h : Q ((σ.set i (some v1)).set j (some v2)) (upd H T (.tup [v1, v2]))) : gTup K 2 (gCons (gName i) (gCons (gName j) gNil)) (.ref T) σ (upd H T (.tup [v1, v2])) Q :=
  ⟨T, _, rfl, SqT.of upd_same, rfl, _, _, rfl, _, _, rfl, rfl, h⟩
theorem g_pairT {T : Addr} {v1 v2 : V} {d1 d2 : PyData} {Q : L2.St → Hp → Prop} (hT : H T = none) (sm : Same G H) (hv : Dp K G v2 (.tuple [d1, d2])) (h : ∀ w1 w2, Dp K G w1 d1 → Dp K G w2 d2 → Q (((σ.set i (some v1)).set j (some w1)).set m (some w2)) (upd H T (.tup [v1, v2]))) :
    gTup K 2 (gCons (gName i) (gCons (gTup K 2 (gCons (gName j) (gCons (gName m) gNil))) gNil)) (.ref T) σ (upd H T (.tup [v1, v2])) Q := by
  obtain ⟨w1, w2, x1, x2, tg⟩ := tg_tup2 (σ := σ.set i (some v1)) (i := j) (j := m) hv
  exact ⟨T, _, rfl, SqT.of upd_same, rfl, _, _, rfl, _, _, rfl, tg _ (sm.trans (same_upd hT)) _ ⟨rfl, h w1 w2 x1 x2⟩⟩
end
end OB
set_option Elab.async false
set_option linter.all false
set_option maxRecDepth 100000
set_option maxHeartbeats 400000
namespace OB
open PySem PySem.Spec PyProof.Rows L2
/-! sorted: pairs of a text and an int -/
def dNm (p : Str × Int) : PyData := .tuple [.str p.1, .int p.2]
def rSortedN (K : Fg) : List V → Hp → VK → Prop := fun vs H Q => ∃ (a : Addr) (xs : List V) (ns : List (Str × Int)), vs = [.ref a] ∧ SqL K H a xs ∧ DpAll K H xs (ns.map dNm) ∧ ns.length ≤ 1000 ∧
  ∀ (zs : List (V × (Str × Int))) (p : Addr), zs.Perm (xs.zip ns) → zs.Pairwise (fun p q => p.2.1.cps.toList ≤ q.2.1.cps.toList) → H p = none → Q (.ref p) (upd H p (.lst (zs.map (·.1))))
theorem dataLt_nm (p q : Str × Int) : PySem.W.dataLt (dNm p) (dNm q) = true → p.1.cps.toList ≤ q.1.cps.toList := by
  intro h
  unfold dNm at h
  rw [PySem.W.dataLt_pair (by simp [PySem.W.alike]) (by simp [PySem.W.alike])] at h
  by_cases e : PyData.eqv (.str p.1) (.str q.1) = true
  · have e2 : p.1 = q.1 := by
      have : (p.1 == q.1) = true := by simpa [PyData.eqv] using e
      exact eq_of_beq this
    rw [e2]
    exact List.le_refl _
  · rw [if_neg e] at h
    have h2 := congrFun (congrFun (PySem.W.dataLe_str (fun b : Str => b)) q.1) p.1
    rw [PySem.W.dataLe_eq] at h2
    simp only [cond_false] at h2
    rw [h] at h2
    have h3 : ¬ q.1.cps.toList ≤ p.1.cps.toList := by
      intro z
      rw [decide_eq_true z] at h2
      cases h2
    exact (List.le_total _ _).resolve_left h3
theorem zip_each {X : Cx} {pins : List (Addr × Obj)} {σ : L2.St} {H : Hp} {s : Shared} (I : Inv X pins σ H s) : ∀ {xs : List V} {ns : List (Str × Int)} {us : List Value}, DpAll X.K H xs (ns.map dNm) → Vals xs us →
    PySem.W.EachIs (fun u (b : V × (Str × Int)) => RelV b.1 u) us (xs.zip ns) ∧ PySem.W.EachIs (fun u (b : V × (Str × Int)) => ∃ as, Reads s.heap u (dNm b.2) as) us (xs.zip ns)
  | _, [], _, .nil, .nil => ⟨.nil, .nil⟩
  | _, n :: ns, _, .cons h t, .cons r rr => by
    obtain ⟨a, b⟩ := zip_each I t rr
    exact ⟨.cons r a, .cons (Dp.reads I _ _ _ h r) b⟩
theorem vals_each : ∀ {us : List Value} {zs : List (V × (Str × Int))}, PySem.W.EachIs (fun u (b : V × (Str × Int)) => RelV b.1 u) us zs → Vals (zs.map (·.1)) us
  | _, _, .nil => .nil
  | _, _, .cons h t => .cons h (vals_each t)
theorem cr_sortedN {X : Cx} (hu : X.A.units + 64 < cLine) : CallR X (.builtin "sorted") (rSortedN X.K) := by
  intro pins s σ H vs us Q I r h
  obtain ⟨a, xs, ns, rfl, hs, hd, hn, q⟩ := h
  obtain ⟨its, rv, hl, hz⟩ := I.list hs
  obtain ⟨u, rfl, ru⟩ := vals1 r
  obtain rfl : u = Value.ref a := ru
  obtain ⟨e1, e2⟩ := zip_each I hd rv
  have hlen : xs.length = ns.length := by rw [dpa_len hd, List.length_map]
  have hle : (xs.zip ns).length ≤ 1000 := by rw [List.length_zip]; omega
  refine PySem.W.sorted_data (enc := fun b : V × (Str × Int) => dNm b.2) hl.isList e1 e2 (PySem.W.AllAlike.of fun b b' => by simp [dNm, PySem.W.alike, PySem.W.alikeAll]) (PySem.W.Sortable.tuples fun b => ⟨_, _, rfl⟩) (Nat.le_trans hle (by decide)) (fun b _ => by
    have e : (dNm b.2).depth = 1 := by simp [dNm, PyData.depth, PyData.depthAll]
    rw [e]
    omega) fun out ho eo => ?_
  obtain ⟨c, hc⟩ := sortedAll_at s.heap its out.toArray
  have pm := List.mergeSort_perm (xs.zip ns) (PySem.W.dataLe false fun b : V × (Str × Int) => dNm b.2)
  refine ⟨.ref (s.heap.objs.size + 1), upd H (s.heap.objs.size + 1) (.lst _), I.laid (t' := s.toks) (fun b o e => sortedAll_old e) (Nat.le_succ _) ⟨?_, out, c, vals_each eo, hc⟩, rfl, q _ _ pm ?_ (I.hok.fresh (Nat.le_succ _))⟩
  · rw [List.length_map, pm.length_eq]
    exact Nat.le_trans hle (by decide)
  · have pw := PySem.W.sort_pairwise (PySem.W.sortLe_total _ false _) (xs.zip ns) (le := PySem.W.dataLe false fun b : V × (Str × Int) => dNm b.2)
    refine pw.imp fun {p q} h => ?_
    rw [PySem.W.dataLe_eq] at h
    simp only [cond_false] at h
    have h' : ¬ PySem.W.dataLt (dNm q.2) (dNm p.2) = true := by
      intro z
      rw [z] at h
      cases h
    rcases List.le_total p.2.1.cps.toList q.2.1.cps.toList with z | z
    · exact z
    · by_cases e : p.2.1 = q.2.1
      · rw [e]; exact List.le_refl _
      · exfalso
        refine h' ?_
        unfold dNm
        rw [PySem.W.dataLt_pair (by simp [PySem.W.alike]) (by simp [PySem.W.alike])]
        have e0 : ¬ PyData.eqv (.str q.2.1) (.str p.2.1) = true := by
          intro z
          have : (q.2.1 == p.2.1) = true := by simpa [PyData.eqv] using z
          exact e (eq_of_beq this).symm
        rw [if_neg e0]
        have h2 := congrFun (congrFun (PySem.W.dataLe_str (fun b : Str => b)) p.2.1) q.2.1
        rw [PySem.W.dataLe_eq] at h2
        simp only [cond_false] at h2
        have nle : ¬ p.2.1.cps.toList ≤ q.2.1.cps.toList := fun y => e (by
          have := List.le_antisymm y z
          cases hp : p.2.1
          cases hq : q.2.1
          rw [hp, hq] at this
          simpa using this)
        rw [decide_eq_false nle] at h2
        simpa using h2
section
variable {K : Fg} {σ : L2.St} {G : Hp} {te : TE}
theorem zip_dp : ∀ {xs : List V} {ns : List (Str × Int)}, DpAll K G xs (ns.map dNm) → ∀ z ∈ xs.zip ns, Dp K G z.1 (dNm z.2)
  | _, [], .nil, z, h => by simp at h
  | _, n :: ns, .cons h t, z, hz => by
    rw [List.zip_cons_cons] at hz
    rcases List.mem_cons.mp hz with rfl | hz
    · exact h
    · exact zip_dp t z hz
theorem dpa_of_all : ∀ {zs : List (V × (Str × Int))}, (∀ z ∈ zs, Dp K G z.1 (dNm z.2)) → DpAll K G (zs.map (·.1)) ((zs.map (·.2)).map dNm)
  | [], _ => .nil
  | z :: zs, h => .cons (h z List.mem_cons_self) (dpa_of_all fun y hy => h y (List.mem_cons_of_mem _ hy))
def SrtN (ns ms : List (Str × Int)) : Prop := ms.Perm ns ∧ ms.Pairwise (fun p q => p.1.cps.toList ≤ q.1.cps.toList)
theorem ev_sortedN {ns : List (Str × Int)} (h : Ev te σ G (D K (.list (ns.map dNm)))) (hn : ns.length ≤ 1000) : Ev (tCB (rSortedN K) (tCons te tNil)) σ G (PrE (SrtN ns) fun ms => D K (.list (ms.map dNm))) :=
  ev_cb (ea_cons h ea_nil) fun vs G1 _ a H s Q q => by
    match vs, a with
    | [v], ⟨r, _⟩ =>
      obtain ⟨a, xs, rfl, hs, hd⟩ := dp_lst r
      refine ⟨a, xs, ns, rfl, s.seq hs, dpa_mono s _ _ hd, hn, fun zs p pm pw hp => ?_⟩
      have ga := Gr.alloc (o := .lst (zs.map (·.1))) s hp
      refine q _ _ _ ga ⟨zs.map (·.2), ⟨?_, ?_⟩, .lst (SqL.of upd_same) (dpa_mono ga.gg _ _ (dpa_of_all fun z hz => zip_dp hd z (pm.mem_iff.mp hz)))⟩
      · have e := pm.map (·.2)
        rw [List.map_snd_zip (by rw [dpa_len hd, List.length_map]; exact Nat.le_refl _)] at e
        exact e
      · rw [List.pairwise_map]
        exact pw
end
end OB
set_option Elab.async false
set_option linter.all false
set_option maxRecDepth 100000
set_option maxHeartbeats 400000
namespace OB
open PySem PySem.Spec PyProof.Rows L2
section
variable {X : Cx} {k : Nat} {C f : Addr} {fd : FuncData} {ps : List Str} {sp : Sp}
/-- a def is called from within a built-in -/
theorem call_at {pins : List (Addr × Obj)} {σ : L2.St} {H : Hp} {s : Shared} {Q : VK} {us : List Value} {vs : List V} {A : Around} (F : FnOk X.prog X.w X.K X.mg X.base CX0 k f fd ps sp) (hr : Room k A) (hA : A.frames = X.A.frames) (hb : Binds X.K fd ps [])
    (I : Inv X pins σ H s) (r : Vals vs us) (h : sp vs H Q E0) {E : Value → Shared → Prop} : wpAny (model X.prog X.w) A (call (.ref f) us) (EP X pins σ Q) E s := by
  have hl : us.length = ps.length := by rw [← r.length]; exact F.len _ _ _ _ h
  have e0 : Env0 X.prog X.w X.K X.mg X.base A X.stack s H := by
    have e := I.env0
    exact ⟨by rw [hA]; exact e.frames, e.mod, e.bs, e.bsz, e.funs, e.frf, e.hok, e.bare⟩
  refine wpAny_call (codeAny_mono (F.run A X.stack s H ⟨us, []⟩ us vs Q E0 hr e0 (by
    have := hb s us I.kIn (by simpa using hl)
    simpa using this) r h) fun r s' hq => ?_)
  cases r with
  | error e => exact False.elim hq
  | ok fl =>
    cases fl with
    | ret u => exact I.after hq
    | next => exact False.elim hq
    | brk => exact False.elim hq
    | cont => exact False.elim hq
theorem ins_at {pins : List (Addr × Obj)} {σ : L2.St} {H : Hp} {s : Shared} {a dx : Addr} {fs : List (Str × V)} (I : Inv X pins σ H s) (h : H a = some (.ins C dx fs)) : ∃ ox od, PySem.W.InstAt s.heap a ox C od := by
  obtain ⟨mA, J, _⟩ := ins_get I.hok h
  obtain ⟨od, J, _⟩ := J.look
  exact ⟨_, _, J⟩
def Own (C : Addr) (H : Hp) (x : V) : Prop := ∃ a dx fs, x = .ref a ∧ H a = some (.ins C dx fs)
def rLenO (C : Addr) (sp : Sp) : List V → Hp → VK → Prop := fun vs H Q => ∃ x, vs = [x] ∧ Own C H x ∧ sp [x] H (fun v H' => ∃ n : Int, v = .int n ∧ (0 ≤ n ∧ n < 2 ^ 63) ∧ Q (.int n) H') E0
theorem cr_lenO (F : FnOk X.prog X.w X.K X.mg X.base CX0 k f fd ps sp) (hs : PySem.W.findIn X.K (.ref C) "__len__" = some (some (.ref f))) (hf : PySem.W.isFn X.K (.ref f) = true) (hb : Binds X.K fd ps []) (hr : Room (k + 1) X.A) : CallR X (.builtin "len") (rLenO C sp) := by
  intro pins s σ H vs us Q I r h
  obtain ⟨x, rfl, ⟨a, dx, fs, rfl, ha⟩, hsp⟩ := h
  obtain ⟨u, rfl, ru⟩ := vals1 r
  obtain rfl : u = Value.ref a := ru
  obtain ⟨ox, od, J⟩ := ins_at I ha
  obtain ⟨m, hF⟩ := I.fr
  refine PySem.W.len_K hF I.ok.mod.kin J hs hf (wpAny_mono (call_at F hr.in1 rfl hb I r hsp) (fun v s' hv => ?_) fun _ _ e => e)
  obtain ⟨z, H', I', rz, n, rfl, hn, q⟩ := hv
  obtain ⟨t, rfl⟩ := rz
  exact ⟨hn, .int n, H', I'.tok _, ⟨_, rfl⟩, q⟩
def rReprO (C : Addr) (sp : Sp) : List V → Hp → VK → Prop := fun vs H Q => ∃ x, vs = [x] ∧ Own C H x ∧ sp [x] H (fun v H' => ∃ z : Str, v = .str z ∧ Q (.str z) H') E0
theorem cr_reprO (F : FnOk X.prog X.w X.K X.mg X.base CX0 k f fd ps sp) (hs : PySem.W.findIn X.K (.ref C) "__repr__" = some (some (.ref f))) (hf : PySem.W.isFn X.K (.ref f) = true) (hb : Binds X.K fd ps []) (hr : Room (k + 1) X.A) : CallR X (.builtin "repr") (rReprO C sp) := by
  intro pins s σ H vs us Q I r h
  obtain ⟨x, rfl, ⟨a, dx, fs, rfl, ha⟩, hsp⟩ := h
  obtain ⟨u, rfl, ru⟩ := vals1 r
  obtain rfl : u = Value.ref a := ru
  obtain ⟨ox, od, J⟩ := ins_at I ha
  obtain ⟨m, hF⟩ := I.fr
  refine PySem.W.repr_K (hr.in1).units0 hF I.ok.mod.kin J hs hf (wpAny_mono (call_at F hr.in1 rfl hb I r hsp) (fun v s' hv => ?_) fun _ _ e => e)
  obtain ⟨z, H', I', rz, n, rfl, q⟩ := hv
  obtain ⟨t, rfl⟩ := rz
  exact ⟨.str n, H', I', ⟨_, rfl⟩, q⟩
/-- x == y: x ours, y of a kind that is told -/
def TyV (K : Fg) (C : Addr) (H : Hp) (y : V) (t : Value) : Prop := (Own C H y ∧ t = .ref C) ∨ (∃ z, y = .str z ∧ t = .type "str") ∨ (∃ a xs, y = .ref a ∧ SqT K H a xs ∧ t = .type "tuple")
def rEqO (K : Fg) (C : Addr) (sp : Sp) : R2 := fun x y H Q => ∃ t, Own C H x ∧ TyV K C H y t ∧ PySem.W.notFirst K C t = true ∧ sp [x, y] H (fun v H' => ∃ b : Bool, v = .bl b ∧ Q (.bl b) H') E0
theorem ty_looks {pins : List (Addr × Obj)} {σ : L2.St} {H : Hp} {s : Shared} {y : V} {u t : Value} (I : Inv X pins σ H s) (ru : RelV y u) (h : TyV X.K C H y t) : PySem.W.Looks (model X.prog X.w) s.heap (typeOf u) t := by
  rcases h with ⟨⟨a, dx, fs, rfl, ha⟩, rfl⟩ | ⟨z, rfl, rfl⟩ | ⟨a, xs, rfl, hs, rfl⟩
  · cases ru
    obtain ⟨ox, od, J⟩ := ins_at I ha
    exact J.type
  · obtain ⟨t, rfl⟩ := ru
    exact PySem.W.Looks.of_pure rfl
  · cases ru
    obtain ⟨its, rv, ⟨o, ho, hc, n, hd⟩, _⟩ := I.tuple hs
    intro A Q E s' k q
    exact wpAny_typeOf_ref (k _ _ ho) (by rw [hc]; exact q)
theorem op_eqO (F : FnOk X.prog X.w X.K X.mg X.base CX0 k f fd ps sp) (hs : PySem.W.findIn X.K (.ref C) "__eq__" = some (some (.ref f))) (hf : PySem.W.isFn X.K (.ref f) = true) (hb : Binds X.K fd ps []) (hr : Room k X.A) : OpR X (compareOp .Eq) (rEqO X.K C sp) := by
  intro pins s σ H x y v u Q I rx ry h
  obtain ⟨t, ⟨a, dx, fs, rfl, ha⟩, hy, hn, hsp⟩ := h
  cases rx
  obtain ⟨ox, od, J⟩ := ins_at I ha
  obtain ⟨m, hF⟩ := I.fr
  show wpAny (model X.prog X.w) X.A (richCompare .Eq (.ref a) u) (EP X pins σ Q) X.xe s
  refine PySem.W.cmp_K (op := .Eq) hr.units0 hF I.ok.mod.kin J (ty_looks I ry hy) hn hs hf (wpAny_mono (call_at F hr rfl hb I (vs := [.ref a, y]) (us := [.ref a, u]) (.cons (show RelV (.ref a) (.ref a) from rfl) (.cons ry .nil)) hsp) (fun v s' hv => ?_) fun _ _ e => e)
  obtain ⟨z, H', I', rz, b, rfl, q⟩ := hv
  cases rz
  exact ⟨.bl b, H', I', rfl, q⟩
/-- repr of a text, of a list, a tuple -/
def rReprD (K : Fg) : List V → Hp → VK → Prop := fun vs H Q => ∃ x d, vs = [x] ∧ Dp K H x d ∧ ((∃ z, d = .str z ∧ (reprText z).length ≤ sizeLine ∧ Q (.str (reprText z)) H) ∨
  (isDisplay d = true ∧ d.showable = true ∧ d.hasDict = false ∧ d.depth ≤ 60 ∧ d.shown.length ≤ sizeLine ∧ Q (.str d.shown) H))
theorem cr_reprD (hg : X.A.guards = some []) (hu : X.A.units + 64 < cLine) : CallR X (.builtin "repr") (rReprD X.K) := by
  intro pins s σ H vs us Q I r h
  obtain ⟨x, d, rfl, hd, h⟩ := h
  obtain ⟨u, rfl, ru⟩ := vals1 r
  rcases h with ⟨z, rfl, hz, q⟩ | ⟨h1, h2, h3, h4, h5, q⟩
  · cases dp_str hd
    obtain ⟨t, rfl⟩ := ru
    exact PySem.P.repr_of_str ⟨.str _, H, I.tok _, ⟨_, rfl⟩, q⟩ hz
  · obtain ⟨as, rd⟩ := Dp.reads I d x u hd ru
    obtain ⟨a, rfl⟩ := isRef_of_reads rd h1
    refine repr_of_reads' rd h2 (fun z => by rw [h3] at z; cases z) hg (by omega) (fun _ _ e => e) (fun h' t tk kp => ?_) h5
    exact ⟨.str _, H, I.kept (t' := tk) kp, ⟨_, rfl⟩, q⟩
end
/-! defs that are called while nothing is being shown -/
structure FnG (P : Program) (w : World) (K : Fg) (mg : Str → Option Value) (base : Heap) (k : Nat) (f : Addr) (fd : FuncData) (ps : List Str) (sp : Sp) : Prop where
  len : ∀ vs H Q E, sp vs H Q E → vs.length = ps.length
  run : ∀ (A : Around) (ou : List PySem.Env) (s : Shared) (H : Hp) (ar : Args) (us : List Value) (vs : List V) (Q : VK) (E : XK), A.guards = some [] → Room k A → Env0 P w K mg base A ou s H → BindsTo s fd ar (ps.zip us) → Vals vs us → sp vs H Q E →
    codeAny (model P w) A (.call (.ref f) ar) (CR CX0 ou P w H s Q E) s
theorem fnG_of {P : Program} {w : World} {K : Fg} {mg : Str → Option Value} {base : Heap} {k : Nat} {f : Addr} {nm qu : Str} {pa : Arguments} {bd : List Stmt} {sc : Scope} {dV kV dc pm cdv ct oc : Value} {an od : Option Addr} {osl : Array (Option Value)} {N ps : List Str} {sp : Sp}
    (lk : K.lookup f = some ⟨oc, od, .func (PySem.W.fnOf nm qu pa bd sc dV kV dc pm an cdv ct), osl⟩) (hcd : PySem.W.codeIn K cdv qu = true) (S : FnScope N ps sc) (len : ∀ vs H Q E, sp vs H Q E → vs.length = ps.length)
    (hb : ∀ (A : Around) (ou : List PySem.Env) (s : Shared) (H : Hp) (vs : List V) (Q : VK) (E : XK), A.guards = some [] → Room k (A.deeper (envOfC qu sc s.heap.objs.size f cdv)) → sp vs H Q E →
      ∃ t, PSs (cxOf CX0 P w K mg base N qu sc f cdv A ou s H E) bd t ∧ t { nx := fun _ H' => Q .non H', rt := Q } (L2.start N vs) H) :
    FnG P w K mg base (k + 1) f (PySem.W.fnOf nm qu pa bd sc dV kV dc pm an cdv ct) ps sp := by
  refine ⟨len, fun A ou s H ar us vs Q E gd rm e0 bn vr hsp => ?_⟩
  have inK : K.In s.heap := e0.mod.kin.keeps fun b o e => (e0.bs b o e).1
  have kinds : ∀ y ∈ ps.zip us, sc.names.lookup y.1 = some .local ∨ (sc.names.lookup y.1 = some .cell ∧ ((cellsFrom (s.heap.objs.size + 1) sc.names []).lookup y.1).isSome = true) := by
    rintro ⟨n, v⟩ hy
    exact (S.par n (List.of_mem_zip hy).1).elim .inl fun q => .inr ⟨q, PySem.W.cellsFrom_some _ _ _ (.inl q)⟩
  refine codeAny_call_function rm.depth (inK _ _ lk) rfl S.co S.gen rfl (PySem.W.codeRec_of inK hcd) (bn _ _ _ _ (wpAny_newFunctionEnv_cells S.kind kinds fun env he s1 x => ?_))
  subst he
  obtain ⟨t, ht, hq⟩ := hb A ou s H vs Q E gd (rm.deeper _) hsp
  have I0 := inv_start (CX := CX0) (E := E) S rm.hd e0 (len _ _ _ _ hsp) vr x
  refine ⟨(e0.mod.nolimit.keeps fun b o e => (e0.bs b o e).1).keeps x.toInCall.keep, codeAny_func (wpAny_mono (ht.run [] s1 (L2.start N vs) H _ I0 hq) (fun fl s' hs => ?_) fun e s' hs => hs)⟩
  cases fl with
  | ret u =>
    obtain ⟨v, σ', H', J, rv, q⟩ := hs
    exact ⟨v, H', J.os, J.bare, J.base, J.hok, rv, q⟩
  | next =>
    obtain ⟨σ', H', J, q⟩ := hs
    exact ⟨.non, H', J.os, J.bare, J.base, J.hok, rfl, q⟩
  | brk => exact (let ⟨_, _, _, q⟩ := hs; False.elim q)
  | cont => exact (let ⟨_, _, _, q⟩ := hs; False.elim q)
structure DefG (P : Program) (w : World) (K : Fg) (mg : Str → Option Value) (base : Heap) (x : Str) (k : Nat) (ps : List Str) (sp : Sp) : Prop where
  ex : ∃ f fd, FnG P w K mg base k f fd ps sp ∧ mg x = some (.ref f) ∧ PySem.W.keepIn K (.ref f) = true ∧ Binds K fd ps []
theorem pe_defG {X : Cx} {x : Str} {k m : Nat} {ps : List Str} {sp : Sp} {e : Expr} {es : List Expr} {t : TA} {p pos : Pos} (F : DefG X.prog X.w X.K X.mg X.base x k ps sp) (gd : X.A.guards = some []) (hr : Room m X.A) (hg : Gl X x) (ha : PA X (e :: es) t) (hk : k ≤ m := by decide)
    (hdb : (x == ("__debug__" : Str)) = false := by decide) (he : starEach (e :: es) X.env = (false, eval e X.env) :: starEach es X.env := by rfl) (hpl : (backTo pos (starEach es X.env)).any (·.1) = false := by rfl) :
    PE X (.Call (.Name x p) (e :: es) [] pos) (tCall sp [] E0 t) := by
  obtain ⟨f, fd, h1, h2, h3, h4⟩ := F.ex
  refine ⟨fun pins s σ H Q I h => ?_⟩
  refine wpAny_Call_Name_kw (ld_glob I hg h2 ?_ hdb)
  refine PySem.W.callWith_K (h₀ := X.base) I.ok.mod.kin h3 (thn (ha.run pos pins s σ H _ I h) fun us s1 ⟨vs, H1, I1, r, q⟩ => ⟨I1.kIn, ?_⟩) he hpl
  have q : sp vs H1 Q E0 := by
    have q0 : sp (vs ++ []) H1 Q E0 := q
    rw [List.append_nil] at q0
    exact q0
  have hl : us.length = ps.length := by rw [← r.length]; exact h1.len _ _ _ _ q
  refine wpAny_call (codeAny_mono (h1.run X.A X.stack s1 H1 ⟨us, []⟩ us vs Q E0 gd (hr.mono hk) I1.env0 (by
    have := h4 s1 us I1.kIn (by simpa using hl)
    simpa using this) r q) fun r s' hq => ?_)
  cases r with
  | error e => exact False.elim hq
  | ok fl =>
    cases fl with
    | ret u => exact I1.after hq
    | next => exact False.elim hq
    | brk => exact False.elim hq
    | cont => exact False.elim hq
end OB
set_option Elab.async false
set_option linter.all false
set_option maxRecDepth 100000
set_option maxHeartbeats 400000
namespace OB
open PySem PySem.Spec PyProof.Rows L2
section
variable {X : Cx} {k : Nat} {C f : Addr} {fd : FuncData} {ps : List Str} {sp : Sp} {bm : List Value}
def NeH (K : Fg) (C f : Addr) (bm : List Value) : Prop := ∀ (h : Heap) (x : Addr) (ox : Obj) (od : Option Addr), K.In h → h.get? x = some ox → ox.cls = .ref C → h.OwnEqNoNe x C f "object" bm
def rNeO (C : Addr) (sp : Sp) : R2 := fun x y H Q => Own C H x ∧ Own C H y ∧ sp [x, y] H (fun v H' => ∃ b : Bool, v = .bl b ∧ Q (.bl (!b)) H') E0
theorem op_neO (F : FnOk X.prog X.w X.K X.mg X.base CX0 k f fd ps sp) (FB : CmpFacts "object" bm) (hN : NeH X.K C f bm) (hb : Binds X.K fd ps []) (hr : Room (k + 1) X.A) : OpR X (compareOp .NotEq) (rNeO C sp) := by
  intro pins s σ H x y v u Q I rx ry h
  obtain ⟨⟨a, dx, fs, rfl, ha⟩, ⟨b, dy, gs, rfl, hb'⟩, hsp⟩ := h
  cases rx
  cases ry
  obtain ⟨_, _, _, oa, _⟩ := I.hok _ _ ha
  obtain ⟨_, _, _, ob, _⟩ := I.hok _ _ hb'
  have gb : X.A.units + 1 < cLine := by have := hr.un; omega
  refine wpAny_mono (compareOp_ne_ownEq FB (hN s.heap a _ none I.kIn oa rfl) ob rfl gb (wpAny_mono (call_at F hr.in1 rfl hb I (vs := [.ref a, .ref b]) (us := [.ref a, .ref b]) (.cons (show RelV (.ref a) (.ref a) from rfl) (.cons (show RelV (.ref b) (.ref b) from rfl) .nil)) hsp) (fun v s' hv => ?_) fun _ _ e => e) (Q := EP X pins σ Q)) (fun _ _ z => z) fun _ _ e => e
  obtain ⟨z, H', I', rz, b, rfl, q⟩ := hv
  cases rz
  exact ⟨b, rfl, .bl (!b), H', I', rfl, q⟩
end
end OB
set_option Elab.async false
set_option linter.all false
set_option maxRecDepth 100000
set_option maxHeartbeats 1000000
namespace OB
open PySem PySem.Spec PyProof.Rows L2
theorem tuple_mul1 (l : Addr) (items : Array Value) (n : Nat) (dd : Option Addr) (sl : Array (Option Value)) (u : Tok) :
    Meets (Builtin.«tuple.__mul__» ⟨[.ref l, .int 1 u], []⟩) (fun _ R s => s.heap.get? l = some { cls := .type "tuple", dict := dd, data := .seq items n, slots := sl } ∧ R (.ok (.ret (Value.ref l))) s) :=
  .of_wp fun prog w A R s h => by
    obtain ⟨hp, g, d, tk, os⟩ := s
    obtain ⟨hl, h⟩ := h
    have f1 := AutoSeq1.idx_int
    wp_walk using wpAny_loadPart' hl
    exact ⟨_, rfl, h⟩
theorem tuple_mul0 (l : Addr) (items : Array Value) (n : Nat) (dd : Option Addr) (sl : Array (Option Value)) (u : Tok) (hi : items.isEmpty = false) :
    Meets (Builtin.«tuple.__mul__» ⟨[.ref l, .int 0 u], []⟩) (fun _ R s => s.heap.get? l = some { cls := .type "tuple", dict := dd, data := .seq items n, slots := sl } ∧
      R (.ok (.ret (Value.ref s.heap.objs.size))) { s with heap := s.heap.push { cls := Value.type "tuple", data := Data.seq #[] }, toks := s.toks }) :=
  .of_wp fun prog w A R s h => by
    obtain ⟨hp, g, d, tk, os⟩ := s
    obtain ⟨hl, h⟩ := h
    have f1 := AutoSeq1.idx_int
    wp_walk using wpAny_loadPart' hl
    exact ⟨_, rfl, h⟩
section
variable {X : Cx}
def rRepS (K : Fg) : R2 := fun x y H Q => ∃ (l : Addr) (k : Nat) (v : V), x = .ref l ∧ y = .int (k : Nat) ∧ SqT K H l [v] ∧ k ≤ 1000 ∧ (k = 1 → Q (.ref l) H) ∧ (k ≠ 1 → ∀ p, H p = none → Q (.ref p) (upd H p (.tup (List.replicate k v))))
theorem flat_one (v : V) : ∀ k : Nat, (List.replicate k [v]).flatten = List.replicate k v
  | 0 => rfl
  | k + 1 => by rw [List.replicate_succ, List.flatten_cons, flat_one v k, List.replicate_succ]; rfl
theorem op_repS : OpR X (binaryOp .Mult) (rRepS X.K) := by
  intro pins s σ H x y v u Q I rx ry h
  obtain ⟨l, k, z, rfl, rfl, hT, hk, h1, h2⟩ := h
  by_cases k2 : 2 ≤ k
  · refine op_repT pins s σ H (.ref l) (.int (k : Nat)) v u Q I rx ry ⟨l, (k : Int), [z], rfl, rfl, hT, by simp, by omega, by omega, by simp, fun p hp => ?_⟩
    rw [Int.toNat_natCast, flat_one]
    exact h2 (by omega) p hp
  · cases rx
    obtain ⟨t, rfl⟩ := ry
    obtain ⟨its, r, ⟨⟨cls, dd, data, sl⟩, ho, hc, n, hd⟩, hs⟩ := I.tuple hT
    simp only at hc hd
    subst hc hd
    have hle : its.length = 1 := r.length.symm
    have hi : its.toArray.isEmpty = false := by
      cases its with
      | nil => simp at hle
      | cons a b => rfl
    have hk' : k = 0 ∨ k = 1 := by omega
    rcases hk' with rfl | rfl
    · refine wpAny_binaryOp_repeat_ref (T := "tuple") (U := "int") (by decide) ⟨_, ho, rfl⟩ (fun s' => typeIs_int s' _ t) noFill_tuple_mul F.fills_int_mul F.slot_int_rmul repeat_tuple F.slot_int_index.lookup
        (call_meets F.slot_int_rmul (typeIs_int s _ t) F.entry_int_rmul (F.args_int_rmul_2 _ _) (int_rmul_tuple _ t l its.toArray n dd sl)
          ⟨ho, rfl, ⟨_, ho, rfl⟩, call_meets F.slot_tuple_mul ⟨_, ho, rfl⟩ F.entry_tuple_mul (F.args_tuple_mul_2 _ _) (tuple_mul0 l its.toArray n dd sl t hi) ⟨ho, ?_⟩⟩)
      exact ⟨.ref s.heap.objs.size, _, I.laid (t' := s.toks) (o := .tup []) (fun b ob q => Heap.get?_push_of_some _ q) (Nat.le_refl _) ⟨by show 0 ≤ sizeLine; decide, _, .nil, IsTup.new _ _⟩, rfl, h2 (by decide) _ (I.hok.fresh (Nat.le_refl _))⟩
    · refine wpAny_binaryOp_repeat_ref (T := "tuple") (U := "int") (by decide) ⟨_, ho, rfl⟩ (fun s' => typeIs_int s' _ t) noFill_tuple_mul F.fills_int_mul F.slot_int_rmul repeat_tuple F.slot_int_index.lookup
        (call_meets F.slot_int_rmul (typeIs_int s _ t) F.entry_int_rmul (F.args_int_rmul_2 _ _) (int_rmul_tuple _ t l its.toArray n dd sl)
          ⟨ho, rfl, ⟨_, ho, rfl⟩, call_meets F.slot_tuple_mul ⟨_, ho, rfl⟩ F.entry_tuple_mul (F.args_tuple_mul_2 _ _) (tuple_mul1 l its.toArray n dd sl t) ⟨ho, ?_⟩⟩)
      exact ⟨.ref l, H, I, rfl, h1 rfl⟩
/-- a dict against the empty one -/
def rEqD0 : R2 := fun x y H Q => ∃ (a b : Addr) (ks : List (Key × V)), x = .ref a ∧ y = .ref b ∧ H a = some (.dK ks) ∧ H b = some (.dK []) ∧ Q (.bl (decide (ks.length = 0))) H
theorem op_eqD0 (hu : X.A.units < cLine) : OpR X (compareOp .Eq) rEqD0 := by
  intro pins s σ H x y v u Q I rx ry h
  obtain ⟨a, b, ks, rfl, rfl, ea, eb, q⟩ := h
  obtain rfl : v = Value.ref a := rx
  obtain rfl : u = Value.ref b := ry
  obtain ⟨_, ya, va, ra, da⟩ := (show ObjOk X.prog X.w H s.heap a (.dK ks) from I.hok a _ ea)
  obtain ⟨_, yb, vb, rb, db⟩ := (show ObjOk X.prog X.w H s.heap b (.dK []) from I.hok b _ eb)
  have l1 : ks.length = va.length := ra.length
  have l2 : 0 = vb.length := rb.length
  refine PySem.W.keq_eq (knd := mixKind X.prog X.w) (r := true) ya yb da db hu (fun e => hits_all rb ra fun p hp => ?_) (fin_bl I q ?_)
  · have : ks = [] := List.eq_nil_of_length_eq_zero (by omega)
    rw [this] at hp
    cases hp
  · rw [← l1, ← l2, Bool.and_true]
    cases ks <;> rfl
end
section
variable {K : Fg} {σ : L2.St} {G : Hp} {ta tb : TE}
theorem ev_rep0 {k : Nat} (ha : Ev ta σ G (D K (.tuple [.int 0]))) (hb : Ev tb σ G (D K (.int (k : Nat)))) (hk : k ≤ 1000) : Ev (tOp (rRepS K) ta tb) σ G (D K (.tuple ((List.replicate k (0 : Int)).map .int))) :=
  ev_op ha hb fun x y G1 _ hx hy => by
    obtain ⟨l, xs, rfl, hs, hd⟩ := dp_tup hx
    cases dp_int hy
    cases hd with
    | cons h1 hd =>
      cases hd
      cases dp_int h1
      intro H s Q q
      refine ⟨l, k, .int 0, rfl, rfl, sm_t s hs, hk, fun e => ?_, fun e p hp => ?_⟩
      · subst e
        exact q _ G1 H (.refl s) (.tup hs (.cons (.int 0) .nil))
      · have ga := Gr.alloc (o := .tup (List.replicate k (V.int 0))) s hp
        refine q _ _ _ ga (.tup (SqT.of upd_same) ?_)
        have := dpa_ints (K := K) (G := upd G1 p (.tup (List.replicate k (V.int 0)))) (List.replicate k 0)
        rw [List.map_replicate] at this
        exact this
end
end OB
set_option Elab.async false
set_option linter.all false
set_option maxRecDepth 100000
set_option maxHeartbeats 400000
namespace OB
open PySem PySem.Spec PyProof.Rows L2
/-- a class of its own with __eq__ alone, as K has it -/
def neIn (K : Fg) (C f : Addr) : Bool := match K.lookup C with
  | some ⟨.type "type", _, .cls cd, slots⟩ => (match cd.mro, slots.toList with
    | [.ref C', .type "object"], [_, _, _, _, some (.builtin _), _] => C' == C && !cd.hasDel && PySem.W.nsOkIn K cd.ns && (PySem.W.nsIn K cd.ns "__eq__" == some (some (.ref f))) && (PySem.W.nsIn K cd.ns "__ne__" == some none) && PySem.W.fnIn K f
    | _, _ => false)
  | _ => false
theorem ns_some_of {K : Fg} {h : Heap} {N : Addr} {m : Str → Option Value} {n : Str} {v : Value} (X : K.In h) (G : h.Ns N m) (e : PySem.W.nsIn K N n = some (some v)) : m n = some v := by
  obtain ⟨o, es, ep, ho, hd, _, hf⟩ := G
  unfold PySem.W.nsIn at e
  split at e
  · rename_i q
    have z := X _ _ q
    rw [ho] at z
    cases z
    cases hd
    split at e
    · rename_i x hx
      cases e
      rw [← hf]
      unfold nsFind findBy
      rw [← Array.find?_toList, hx]
      rfl
    · split at e <;> cases e
  · cases e
theorem neH_of {K : Fg} {C f : Addr} (hq : neIn K C f = true) (hf : ∃ dd fd sl, K.lookup f = some ⟨.type "function", dd, .func fd, sl⟩) : NeH K C f [.type "object"] := by
  intro h x ox od X hx hc
  unfold neIn at hq
  split at hq
  · rename_i dd cd sl ho
    split at hq
    · rename_i C' k0 k1 k2 k3 n k5 hm hs
      simp only [Bool.and_eq_true, beq_iff_eq, Bool.not_eq_true'] at hq
      obtain ⟨⟨⟨⟨⟨e1, e2⟩, e3⟩, e4⟩, e5⟩, e6⟩ := hq
      subst e1
      obtain ⟨nm, bs, mro, ns, qn, hd, sn, sub, ab, col, del⟩ := cd
      dsimp only at hm e2 e3 e4 e5
      subst hm e2
      have hsl : sl = #[k0, k1, k2, k3, some (.builtin n), k5] := by
        obtain ⟨l⟩ := sl
        simp only at hs
        rw [hs]
      subst hsl
      obtain ⟨d2, fd, s2, hfl⟩ := hf
      have G := Heap.Ns.of_isNs (PySem.W.isNs_of_in X e3)
      exact ⟨ox, _, nm, qn, ns, bs, hd, sn, sub, ab, col, dd, k0, k1, k2, k3, k5, n, _, _, hx, hc, X _ _ ho, G, ns_some_of X G e4, X _ _ hfl, rfl, PySem.F.cmp_object.mro, PySem.F.cmp_object.eq.lookup, PySem.W.ns_none_of X G e5⟩
    · cases hq
  · cases hq
end OB
set_option Elab.async false
set_option linter.all false
set_option maxRecDepth 100000
set_option maxHeartbeats 1000000
namespace OB
open PySem PySem.Spec PyProof.Rows L2
/-- the law is called while nothing is being shown: a heap of its own for the script -/
theorem startG {P : Program} {w : World} {K : Fg} {mg mb : Str → Option Value} {k : Nat} {fa a : Addr} {fd : FuncData} {x : Str} {sp : Sp} {z : Shared} {H : Hp} {xs : List V} (inK : K.In z.heap) (gl : z.heap.Ns mainGlobals mg) (bn : z.heap.Ns builtinsNs mb) (bb : ∀ y : Str, y ≠ "__name__" → mb y = bootBuiltins y) (nl : z.heap.NoLimit) (ng : z.gens = #[])
    (nodict : ∀ (b : Addr) (o : Obj) (es : Array DictEntry) (ep : Nat), z.heap.get? b = some o → o.data = .dict es ep → H b = none) (apart : ∀ b, (K.lookup b).isSome = true → H b = none) (stays : ∀ b u, H b = some u → ∃ ob, u = .frz ob (.lst xs)) (hok : HOk P w H z.heap) (rm : Room k callerA)
    (FF : ∀ base : Heap, K.In base → base.Ns mainGlobals mg → FnG P w K mg base k fa fd [x] sp) (bnd : ∀ (s : Shared) (u : Value), BindsTo s fd ⟨[u], []⟩ [(x, u)]) (hs : sp [.ref a] H (fun v _ => v = .bl true) E0) :
    codeAny (model P w) callerA (.call (.ref fa) ⟨[.ref a], []⟩) (fun r s' => r = .ok (.ret (.bool true)) ∧ OldK z.heap s'.heap ∧ s'.os = z.os ∧ AllBare s'.gens) z := by
  have kept : ∀ (b : Addr) (m : Str → Option Value), z.heap.Ns b m → (hidT z.heap H).Ns b m := fun b m ⟨o, es, ep, h1, h2, h3⟩ => ⟨o, es, ep, hidT_get h1 (nodict b o es ep h1 h2), h2, h3⟩
  have inB : K.In (hidT z.heap H) := fun b o h1 => hidT_get (inK b o h1) (apart b (by rw [h1]; rfl))
  have md : Mod K mg (hidT z.heap H) := by
    obtain ⟨mc, n1, n2⟩ := nl
    exact ⟨inB, kept _ _ gl, ⟨mb, kept _ _ bn, bb⟩, ⟨mc, kept _ _ n1, n2⟩⟩
  have env : Env0 P w K mg (hidT z.heap H) callerA [] z H := by
    refine ⟨rfl, md, fun b o h1 => of_hidT h1, Nat.le_of_eq (hidT_size _ _), trivial, fun b h1 => ?_, hok, .of_eq ng⟩
    cases h1
  have ran := (FF _ inB (kept _ _ gl)).run callerA [] z H ⟨[.ref a], []⟩ [.ref a] [.ref a] _ _ rfl rm env (bnd z (.ref a)) (.cons rfl .nil) hs
  refine codeAny_mono ran fun res s' out => ?_
  match res, out with
  | .error e, out => exact False.elim out
  | .ok .next, out => exact False.elim out
  | .ok .brk, out => exact False.elim out
  | .ok .cont, out => exact False.elim out
  | .ok (.ret u), out =>
    obtain ⟨v, H', o1, o2, o3, o4, o5, o6⟩ := out
    cases (show v = .bl true from o6)
    cases (show u = Value.bool true from o5)
    refine ⟨rfl, OldK.of_keep fun b o e => ?_, o1, o2⟩
    cases hb : H b with
    | none => exact o3.keep b o e hb (fun c => by cases c) (by simp)
    | some t =>
      obtain ⟨ob, rfl⟩ := stays b t hb
      have f1 := (hok b _ hb).1
      have f2 := (o4 b _ (o3.frzs b ob _ hb)).1
      rw [e] at f1
      cases f1
      exact f2
theorem callG {P : Program} {w : World} {K : Fg} {mg mb : Str → Option Value} {k : Nat} {fa a : Addr} {fd : FuncData} {x : Str} {sp : Sp} {z : Shared} {us : List Value} {ns : List Int} (inK : K.In z.heap) (gl : z.heap.Ns mainGlobals mg) (bn : z.heap.Ns builtinsNs mb) (bb : ∀ y : Str, y ≠ "__name__" → mb y = bootBuiltins y) (nl : z.heap.NoLimit) (ng : z.gens = #[])
    (sa : z.heap.get? a = some { cls := .type "list", data := .seq us.toArray }) (ia : IntsAre us ns) (sl : ns.length ≤ sizeLine) (rm : Room k callerA)
    (FF : ∀ base : Heap, K.In base → base.Ns mainGlobals mg → FnG P w K mg base k fa fd [x] sp) (bnd : ∀ (s : Shared) (u : Value), BindsTo s fd ⟨[u], []⟩ [(x, u)]) (hs : ∀ H : Hp, SqL K H a (ns.map V.int) → sp [.ref a] H (fun v _ => v = .bl true) E0) :
    codeAny (model P w) callerA (.call (.ref fa) ⟨[.ref a], []⟩) (fun r s' => r = .ok (.ret (.bool true)) ∧ OldK z.heap s'.heap ∧ s'.os = z.os ∧ AllBare s'.gens) z := by
  have rel := vals_ints ia
  have ll := ia.length
  cases hk : K.lookup a with
  | some o =>
    have e := inK a o hk
    rw [sa] at e
    cases e
    exact startG (H := fun _ => none) (xs := []) inK gl bn bb nl ng (fun _ _ _ _ _ _ => rfl) (fun _ _ => rfl) (fun b u c => nomatch (show (none : Option HO) = some u from c)) (fun b u c => nomatch (show (none : Option HO) = some u from c)) rm FF bnd (hs _ (.inr ⟨_, us.toArray, _, hk, rfl, rfl, rfl, by rw [List.size_toArray, ll]; exact sl, by simpa using rel⟩))
  | none =>
    let ob : Obj := { cls := .type "list", data := .seq us.toArray }
    let H : Hp := fun b => if b = a then some (.frz ob (.lst (ns.map V.int))) else none
    have at_a : H a = some (.frz ob (.lst (ns.map V.int))) := if_pos rfl
    have not_a : ∀ b, b ≠ a → H b = none := fun b h => if_neg h
    refine startG (H := H) (xs := ns.map V.int) inK gl bn bb nl ng (fun b o es ep h1 h2 => ?_) (fun b h1 => ?_) (fun b u h1 => ?_) (fun b u h1 => ?_) rm FF bnd (hs _ (.inl (.inr ⟨ob, at_a⟩)))
    · refine not_a b fun c => ?_
      subst c
      rw [sa] at h1
      cases h1
      exact nomatch (show Data.seq us.toArray _ = Data.dict es ep from h2)
    · refine not_a b fun c => ?_
      subst c
      rw [hk] at h1
      cases h1
    · by_cases c : b = a
      · subst c
        rw [at_a] at h1
        cases h1
        exact ⟨ob, rfl⟩
      · rw [not_a b c] at h1
        cases h1
    · by_cases c : b = a
      · subst c
        rw [at_a] at h1
        cases h1
        exact ⟨sa, by rw [List.length_map]; exact sl, us, _, rel, sa⟩
      · rw [not_a b c] at h1
        cases h1
/-- the end over a head by facts -/
theorem walkGE {l : PySem.W.OpenLaw} {m k : Nat} {q : Program} {loose : List Str} {XP : (Str → Option Value) → Heap → Prop} {YP : World → Heap → Prop} {d : DefRec} {x : Str} (hm : l.most = some m) (hm2 : m ≤ sizeLine) (nodef : d.params.defaults = []) (rm : Room k callerA)
    (FF : ∀ (w : World) (mg : Str → Option Value) (fa : Addr) (h : Heap), YP w h → h.Ns mainGlobals mg → mg d.name = some (.ref fa) → ∃ (K : Fg) (fd : FuncData) (sp : Sp), K.In h ∧ (∀ (s : Shared) (u : Value), BindsTo s fd ⟨[u], []⟩ [(x, u)]) ∧
      (∀ (H : Hp) (a : Addr) (ns : List Int), ns.length ≤ m → SqL K H a (ns.map V.int) → sp [.ref a] H (fun v _ => v = .bl true) E0) ∧ ∀ base : Heap, K.In base → base.Ns mainGlobals mg → FnG l.prog w K mg base k fa fd [x] sp) : PySem.W.WalkO q loose XP YP l.row.toRowW d [] (fun f vs => PySem.call f vs) := by
  refine Att.attach_call hm nodef fun w s0 z mg mb fa o pm cd doc a us ns top Y ho hd hcd hmg hobj hints hlen hg => ?_
  obtain ⟨K, fd, sp, KX, b1, b2, b3⟩ := FF w mg fa _ Y top.T.g hmg
  exact callG KX top.T.g top.T.b top.T.builtins top.T.nolimit hg hobj hints (Nat.le_trans hlen hm2) rm b3 b1 fun H h => b2 H a ns hlen h
/-! facts by their places -/
def tup0B (K : Fg) (a : Addr) : Bool := match K.lookup a with
  | some ⟨.type c, _, .seq its _, _⟩ => decide (c = "tuple") && its.toList.isEmpty
  | _ => false
theorem tup0B_ok {K : Fg} {a : Addr} (h : tup0B K a = true) (G : Hp) : SqT K G a [] := by
  unfold tup0B at h
  cases q : K.lookup a with
  | none =>
    rw [q] at h
    cases h
  | some o =>
    obtain ⟨oc, od, dt, osl⟩ := o
    rw [q] at h
    cases oc with
    | type c =>
      cases dt with
      | seq its n =>
        obtain ⟨h1, h2⟩ := He.ba (show (decide (c = "tuple") && its.toList.isEmpty) = true from h)
        have e : its = #[] := by
          have := List.isEmpty_iff.mp h2
          exact Array.toList_eq_nil_iff.mp this
        subst e
        exact .inr ⟨_, #[], n, q, congrArg Value.type (of_decide_eq_true h1), rfl, Nat.zero_le _, .nil⟩
      | _ => cases h
    | _ => cases dt <;> cases h
theorem bAt {l : List Bool} (h : l.all id = true) (i : Nat) {b : Bool} (e : l[i]? = some b := by rfl) : b = true := List.all_eq_true.mp h b (List.mem_of_getElem? e)
theorem bAtD {l : List Bool} (h : l.all id = true) (i : Nat) {p : Prop} [Decidable p] (e : l[i]? = some (decide p) := by rfl) : p := of_decide_eq_true (bAt h i e)
abbrev dD (x : Str) (st : Stmt) : He.DefD := ⟨(x, none), x, x, defArgs st, defBody st, defScope st, [], []⟩
abbrev dM (C m qual : Str) (st : Stmt) : He.DefD := ⟨(C, some m), m, qual, defArgs st, defBody st, defScope st, [], []⟩
theorem fd_of {fa : List He.Fa} {fn : List He.DefD} {K : Fg} {h : Heap} {mg : Str → Option Value} {x : Str} {st : Stmt} {ps : List Str} (c : He.SaysD fa fn K) (X : K.In h) (G : h.Ns mainGlobals mg) (i j : Nat)
    (hb : ∀ (kV doc pm : Value) (an : Option Addr) (cdv ct : Value) (us : List Value), us.length = ps.length → bindArgs (PySem.W.fnOf x x (defArgs st) (defBody st) (defScope st) .none kV doc pm an cdv ct) ⟨us, []⟩ = pure (ps.zip us))
    (hi : fn[i]? = some (dD x st) := by rfl) (hj : fa[j]? = some (.glo x) := by rfl) : Fd K mg x st ps := by
  obtain ⟨fd, F⟩ := c.def_ i hi
  have F2 := He5.fun_of F
  exact ⟨_, fd, F2, He.glo_ok X G (c.fact j hj), F2.binds hb⟩
theorem meth_of {fa : List He.Fa} {fn : List He.DefD} {K : Fg} {C m qual : Str} {st : Stmt} (c : He.SaysD fa fn K) (i j : Nat) (hi : fn[i]? = some (dM C m qual st) := by rfl) (hj : fa[j]? = some (.meth C m) := by rfl) :
    ∃ fd, Fun K m qual st (He.ma K (He.ga K C) m) fd ∧ PySem.W.findIn K (.ref (He.ga K C)) m = some (some (.ref (He.ma K (He.ga K C) m))) ∧ PySem.W.isFn K (.ref (He.ma K (He.ga K C) m)) = true ∧ PySem.W.keepIn K (.ref (He.ma K (He.ga K C) m)) = true ∧
    ∀ ps : List Str, (∀ (kV doc pm : Value) (an : Option Addr) (cdv ct : Value) (us : List Value), us.length = ps.length → bindArgs (PySem.W.fnOf m qual (defArgs st) (defBody st) (defScope st) .none kV doc pm an cdv ct) ⟨us, []⟩ = pure (ps.zip us)) → Binds K fd ps [] := by
  obtain ⟨fd, F⟩ := c.def_ i hi
  have F2 := He5.fun_of F
  obtain ⟨a, b, d⟩ := He.meth_ok (c.fact j hj)
  exact ⟨fd, F2, a, b, d, fun ps hb => F2.binds hb⟩
end OB
set_option Elab.async false
set_option linter.all false
set_option maxRecDepth 100000
set_option maxHeartbeats 4000000
namespace K3
open PySem L2 OB
def top (i : Nat) : Stmt := PySem.Challenge.pw_osier_k03_webs_alike_and_as_text.main.body.getD i (.Pass ⟨0, 0, 0, 0⟩)
def bnames : List Str := ["len", "all", "min", "str", "list", "tuple", "dict", "sorted", "repr", "set", "isinstance", "range", "zip", "enumerate"]
structure Tx (mg : Str → Option Value) : Prop where
  nb : ∀ x, x ∈ bnames → mg x = none
  g_SMALL_LETTERS : ∃ t, mg "SMALL_LETTERS" = some (.str "abcdefghijklmnopqrstuvwxyz" t)
  g_CELL : ∃ t, mg "CELL" = some (.str "cell" t)
  g_EMPTY : ∃ t, mg "EMPTY" = some (.str "empty" t)
  g_CELL_TARGETS : ∃ t, mg "CELL_TARGETS" = some (.int 2 t)
  g_MOST_TARGETS : ∃ t, mg "MOST_TARGETS" = some (.int 2 t)
  g_MOST_NAMES : ∃ t, mg "MOST_NAMES" = some (.int 6 t)
  g_MOST_POINTS : ∃ t, mg "MOST_POINTS" = some (.int 200 t)
  g_NOTHING : ∃ t, mg "NOTHING" = some (.int 0 t)
  g_GONE : ∃ t, mg "GONE" = some (.int (-1) t)
theorem Tx.nb' {mg : Str → Option Value} (T : Tx mg) (x : Str) (h : x ∈ bnames := by decide +kernel) : mg x = none := T.nb x h
theorem pe_gs {X : Cx} {x z : Str} {pos : Pos} (hg : Gl X x) (h : ∃ t, X.mg x = some (.str z t)) (hd : (x == ("__debug__" : Str)) = false := by decide) : PE X (.Name x pos) (tC (.str z)) := by
  obtain ⟨t, h⟩ := h
  exact pe_glob hg h ⟨t, rfl⟩ hd
theorem pe_gi {X : Cx} {x : Str} {z : Int} {pos : Pos} (hg : Gl X x) (h : ∃ t, X.mg x = some (.int z t)) (hd : (x == ("__debug__" : Str)) = false := by decide) : PE X (.Name x pos) (tC (.int z)) := by
  obtain ⟨t, h⟩ := h
  exact pe_glob hg h ⟨t, rfl⟩ hd
section
variable {P : Program} {w : World} {K : Fg} {mg : Str → Option Value} {base : Heap}
/-! is_target -/
abbrev s_is_target : Stmt := top 23
theorem sc_is_target : FnScope ["target", "points"] ["target", "points"] (defScope s_is_target) := ⟨rfl, rfl, rfl, by decide +kernel, rfl, by decide +kernel, by decide +kernel⟩
def isTgt (t n : Int) : Bool := decide (-1 ≤ t) && decide (t ≤ n)
def sp_is_target (K : Fg) : Sp := spD (α := Int × Int) (fun a => [D K (.int a.1), D K (.int a.2)]) (fun _ => True) (fun a => D K (.bool (isTgt a.1 a.2)))
theorem ok_is_target (T : Tx mg) (F : Fd K mg "is_target" s_is_target ["target", "points"]) : Def P w K mg base "is_target" 1 ["target", "points"] (sp_is_target K) := by
  refine F.okD sc_is_target (fun _ => rfl) (fun f cdv A outer s H E Q a G hr sm pr k => ?_)
  refine ⟨_, (pss_one (ps_ret (pe_chain op_le op_le (pe_gi (by rfl) T.g_GONE) (pv 0) (pv 1)))), fun σ e => ?_⟩
  refine w_ret (.refl sm) (ev_chain ev_int (ev_v e) (ev_v e) (fun x y G1 _ hx hy => rv_le hx hy) (fun _ x y G1 _ hx hy => rv_le hx hy)) k
/-! is_small_word -/
abbrev s_is_small_word : Stmt := top 9
theorem sc_is_small_word : FnScope ["text", "least", "most", "sign"] ["text", "least", "most"] (defScope s_is_small_word) := ⟨rfl, rfl, rfl, by decide +kernel, rfl, by decide +kernel, by decide +kernel⟩
def abc : Str := "abcdefghijklmnopqrstuvwxyz"
def smallB (z : Str) : Bool := z.cps.toList.all fun c => decide (c ∈ abc.cps.toList)
def isWord (z : Str) (lo hi : Int) : Bool := (decide (lo ≤ (z.length : Int)) && decide ((z.length : Int) ≤ hi)) && smallB z
def sp_is_small_word (K : Fg) : Sp := spD (α := Str × Int × Int) (fun a => [D K (.str a.1), D K (.int a.2.1), D K (.int a.2.2)]) (fun a => a.1.length ≤ 1000) (fun a => D K (.bool (isWord a.1 a.2.1 a.2.2)))
def sgnOf : PyData → Nat
  | .str z => z.cps.toList.headD 0
  | _ => 0
theorem ok_is_small_word (T : Tx mg) (F : Fd K mg "is_small_word" s_is_small_word ["text", "least", "most"]) : Def P w K mg base "is_small_word" 1 ["text", "least", "most"] (sp_is_small_word K) := by
  have nd := sc_is_small_word.nd
  refine F.okD sc_is_small_word (fun _ => rfl) (fun f cdv A outer s H E Q a G hr sm pr k => ?_)
  refine ⟨_, (pss_one (ps_ret (pe_and (pe_chain op_le op_le (pv 1) (pe_callB call_len (by rfl) (T.nb "len" (by decide +kernel)) (by decide +kernel) (pa_cons (pv 0) pa_nil)) (pv 2)) (pe_one (pe_callB (cr_all rfl) (by rfl) (T.nb "all" (by decide +kernel)) (by decide +kernel) (pa_cons (pe_lc (own := [("sign", 3)]) (g := (gName 3)) rfl nd (pi_str (pv 0)) (blkOk_by (by kernel_rfl)) (fun _ _ _ _ _ => (pg_name (i := 3) nd rfl (Or.inl rfl))) (fun _ _ _ _ _ => pts_nil) (fun _ _ _ _ _ => (pe_cmpR op_in_sign (pv 3) (pe_gs (by rfl) T.g_SMALL_LETTERS) (by rfl)))) pa_nil)))))), fun σ e => ?_⟩
  obtain ⟨z, lo, hi⟩ := a
  have hz : z.length ≤ 1000 := pr
  refine w_ret (.refl sm) ?_ k
  refine ev_andV (ev_chain (ev_v e) (ev_lenS (ev_v e) (sz8 hz)) (ev_v e) (fun x y G1 _ hx hy => rv_le hx hy) (fun _ x y G1 _ hx hy => rv_le hx hy)) fun _ => ?_
  have e1 : (z.cps.toList.map fun c => PyData.str (sgn c)).map (fun d => PyData.bool (decide (sgnOf d ∈ abc.cps.toList))) = (z.cps.toList.map fun c => decide (c ∈ abc.cps.toList)).map PyData.bool := by
    rw [List.map_map, List.map_map]
    rfl
  have e2 : smallB z = (z.cps.toList.map fun c => decide (c ∈ abc.cps.toList)).all id := by
    unfold smallB
    rw [List.all_map]
    rfl
  rw [e2]
  refine ev_all ?_
  rw [← e1]
  refine ev_lc _ (src_str (ev_v e)) (by rw [List.length_map, Array.length_toList]; exact hz) fun j d v G' h1 h2 h3 => ?_
  rw [List.getElem?_map] at h1
  cases q : z.cps.toList[j]? with
  | none => rw [q] at h1; cases h1
  | some c =>
    rw [q] at h1
    cases h1
    have e3 : Env 4 G' ((wipe σ [3]).set 3 (some v)) ((3, D K (.str (sgn c))) :: []) := ((e.wipe1 (l' := []) (fun j R q => by cases q)).mono h2).set (by decide) h3
    exact ⟨_, tg_name, wipe_set1, ev_inS (ev_v e3) ev_str⟩
end
end K3
set_option Elab.async false
set_option linter.all false
set_option maxRecDepth 100000
set_option maxHeartbeats 4000000
namespace K3
open PySem L2 OB
section
variable {P : Program} {w : World} {K : Fg} {mg : Str → Option Value} {base : Heap}
def dInts (ns : List Int) : PyData := .list (ns.map .int)
def anyI (K : Fg) : Pr := PrE (fun _ : Int => True) fun i => D K (.int i)
theorem ev_any {te : TE} {σ : L2.St} {G : Hp} {i : Int} (h : Ev te σ G (D K (.int i))) : Ev te σ G (anyI K) := Ev.ex i trivial h
/-! _law_cell -/
abbrev s_cell : Stmt := top 31
theorem sc_cell : FnScope ["_law_script", "_law_k", "_law_base", "_law_one"] ["_law_script", "_law_k"] (defScope s_cell) := ⟨rfl, rfl, rfl, by decide +kernel, rfl, by decide +kernel, by decide +kernel⟩
def sp_cell (K : Fg) : Sp := spD (α := List Int × Int) (fun a => [D K (dInts a.1), D K (.int a.2)]) (fun a => 0 ≤ a.2) (fun _ => anyI K)
theorem atI_ints {ns : List Int} {k : Int} (h0 : 0 ≤ k) (h : k < (ns.length : Int)) : ∃ i, atI (ns.map PyData.int) k = some (.int i) := by
  obtain ⟨j, rfl⟩ := Int.eq_ofNat_of_zero_le h0
  have hj : j < ns.length := by omega
  exact ⟨ns[j], atI_nat (by simp [hj])⟩
theorem ok_cell (T : Tx mg) (F : Fd K mg "_law_cell" s_cell ["_law_script", "_law_k"]) : Def P w K mg base "_law_cell" 1 ["_law_script", "_law_k"] (sp_cell K) := by
  have nd := sc_cell.nd
  refine F.okD sc_cell (fun _ => rfl) (fun f cdv A outer s H E Q a G hr sm pr k => ?_)
  refine ⟨_, (pss_cons (ps_if (pt_cmpR op_lt (pv 1) (pe_callB call_len_seq (by rfl) (T.nb' "len") (by decide +kernel) (pa_cons (pv 0) pa_nil)) (nomark _)) (pss_one (ps_ret (pe_ix ix_list (pv 0) (pv 1) (fun _ _ => rfl)))) pss_nil)
      (pss_cons (ps_set (i := 2) nd rfl (Or.inl rfl) pe_int)
      (pss_cons (ps_for PassesOwn.never rfl (pi_list (pv 0)) (pg_name (i := 3) nd rfl (Or.inl rfl))
      (pss_one (ps_set (i := 2) nd rfl (Or.inl rfl) (pe_op op_mod (pe_op op_add (pe_op op_mul (pv 2) pe_int) (pv 3)) pe_int))))
      (pss_one (ps_ret (pe_op op_mod (pe_op op_mul (pe_op op_mul (pe_op op_add (pv 2) pe_int) (pe_op op_add (pv 1) pe_int)) pe_int) pe_int)))))), fun σ e => ?_⟩
  obtain ⟨ns, kk⟩ := a
  have hk : 0 ≤ kk := pr
  refine q_if e (.refl sm) (et_test (ev_lt (ev_v e) (ev_lenL (ev_v e)))) (fun hb G1 H1 e1 g1 _ => ?_) (fun hb G1 H1 e1 g1 _ => ?_)
  · have hb' : kk < ((ns.map PyData.int).length : Int) := of_decide_eq_true hb
    rw [List.length_map] at hb'
    obtain ⟨i, hi⟩ := atI_ints hk hb'
    exact w_ret g1 (Ev.ex i trivial (ev_ixL (ev_v e1) (ev_v e1) hi)) k
  · refine q_asg 2 e1 g1 (ev_int (K := K)) (by decide) fun σ2 G2 H2 e2 g2 _ => ?_
    refine q_forN g2.gh (src_list (ev_v e2)) fun G3 H3 g3 => ⟨fun _ σ' G' H' => Gr G H G' H' ∧ ∃ b : Int, 0 ≤ b ∧ b < 1000003 ∧ Env 4 G' σ' [(2, D K (.int b)), (0, D K (dInts ns)), (1, D K (.int kk))], ?_, ?_, ?_⟩
    · exact ⟨g2.trans g3, 17, by decide, by decide, (have e := e2.mono g3.gg; e.pick (e.pick (e.pick e.nil)))⟩
    · rintro j d v σ' G' H' hj s1 s2 hd ⟨g4, b, b0, b1, e4⟩
      obtain ⟨o, rfl⟩ : ∃ o, d = .int o := by
        rw [List.getElem?_map] at hj
        cases q : ns[j]? with
        | none => rw [q] at hj; cases hj
        | some o => rw [q] at hj; cases hj; exact ⟨o, rfl⟩
      have e5 := e4.set (i := 3) (R := D K (.int o)) (by decide) hd
      refine w_asg (i := 2) e5 g4 (ev_mod (ev_add (ev_mul (ev_v e5) ev_int (.inl ⟨by omega, by omega⟩)) (ev_v e5)) ev_int (by decide)) (by decide) fun σ6 G6 H6 e6 g6 gg6 => ?_
      refine ⟨G6, s1.trans gg6.gg, gg6.gh, g6, _, Int.emod_nonneg _ (by decide), Int.emod_lt_of_pos _ (by decide), e6.pick (e6.pick (e6.pick e6.nil))⟩
    · rintro σ' G' H' s1 s2 ⟨g4, b, b0, b1, e4⟩
      exact w_ret g4 (ev_any (ev_mod (ev_mul (ev_mul (ev_add (ev_v e4) ev_int) (ev_add (ev_v e4) ev_int) (.inl ⟨by omega, by omega⟩)) ev_int (.inr ⟨by decide, by decide⟩)) ev_int (by decide))) k
/-! _law_digits -/
def DgOk : List Int → List Int → Prop
  | [], [] => True
  | d :: ds, s :: ss => (0 ≤ d ∧ d < s) ∧ DgOk ds ss
  | _, _ => False
theorem DgOk.snoc : ∀ {ds ss : List Int} {d s : Int}, DgOk ds ss → 0 ≤ d → d < s → DgOk (ds ++ [d]) (ss ++ [s])
  | [], [], _, _, _, h1, h2 => ⟨⟨h1, h2⟩, trivial⟩
  | _ :: _, _ :: _, _, _, h, h1, h2 => ⟨h.1, DgOk.snoc h.2 h1 h2⟩
  | [], _ :: _, _, _, h, _, _ => h.elim
  | _ :: _, [], _, _, h, _, _ => h.elim
theorem DgOk.len : ∀ {ds ss : List Int}, DgOk ds ss → ds.length = ss.length
  | [], [], _ => rfl
  | _ :: _, _ :: _, h => by rw [List.length_cons, List.length_cons, DgOk.len h.2]
  | [], _ :: _, h => h.elim
  | _ :: _, [], h => h.elim
def DgP (K : Fg) (sizes : List Int) : Pr := PrE (fun d => ∃ ds, DgOk ds sizes ∧ d = dInts ds) (D K)
abbrev n_digits : List Str := ["_law_script", "_law_k", "_law_sizes", "_law_cell_here", "_law_out", "_law_rest", "_law_size", "_law_one", "_law_j", "_law_two"]
abbrev s_digits : Stmt := top 32
theorem sc_digits : FnScope n_digits ["_law_script", "_law_k", "_law_sizes"] (defScope s_digits) := ⟨rfl, rfl, rfl, by decide +kernel, rfl, by decide +kernel, by decide +kernel⟩
def sp_digits (K : Fg) : Sp := spD (α := List Int × Int × List Int) (fun a => [D K (dInts a.1), D K (.int a.2.1), D K (dInts a.2.2)]) (fun a => 0 ≤ a.2.1 ∧ a.2.2.length ≤ 100 ∧ ∀ s ∈ a.2.2, 0 < s ∧ s < 1000000) (fun a => DgP K a.2.2)
theorem getI {ns : List Int} {j : Nat} {d : PyData} (h : (ns.map PyData.int)[j]? = some d) : ∃ o, d = .int o ∧ ns[j]? = some o := by
  rw [List.getElem?_map] at h
  cases q : ns[j]? with
  | none => rw [q] at h; cases h
  | some o => rw [q] at h; cases h; exact ⟨o, rfl, rfl⟩
theorem take_snoc {α : Type} {l : List α} {j : Nat} {x : α} (h : l[j]? = some x) : l.take (j + 1) = l.take j ++ [x] := by
  rw [List.take_add_one, h]
  rfl
theorem ok_digits (T : Tx mg) (F : Fd K mg "_law_digits" s_digits ["_law_script", "_law_k", "_law_sizes"]) (D_law_cell : Def P w K mg base "_law_cell" 1 ["_law_script", "_law_k"] (sp_cell K)) : Def P w K mg base "_law_digits" 2 ["_law_script", "_law_k", "_law_sizes"] (sp_digits K) := by
  have nd := sc_digits.nd
  refine F.okD sc_digits (fun _ => rfl) (fun f cdv A outer s H E Q a G hr sm pr k => ?_)
  refine ⟨_, (pss_cons (ps_set (i := 3) nd rfl (Or.inl rfl) (pe_def D_law_cell hr (by rfl) (pa_cons (pv 0) (pa_cons (pv 1) pa_nil))))
      (pss_cons (ps_set (i := 4) nd rfl (Or.inl rfl) (pe_lst pa_nil))
      (pss_cons (ps_if (pt_cmpR op_ge (pv 3) (pe_op op_pow pe_int pe_int) (nomark _)) (pss_cons (ps_set (i := 5) nd rfl (Or.inl rfl) (pe_op op_sub (pv 3) (pe_op op_pow pe_int pe_int)))
      (pss_cons (ps_for PassesOwn.never rfl (pi_list (pv 2)) (pg_name (i := 6) nd rfl (Or.inl rfl))
      (pss_cons (ps_expr (pe_bm PySem.F.plainAttrs_list PySem.F.slot_list_append PySem.F.type_list_append mt_append (pv 4) (pa_cons (pe_op op_mod (pv 5) (pv 6)) pa_nil)))
      (pss_one (ps_set (i := 5) nd rfl (Or.inl rfl) (pe_op op_fdiv (pv 5) (pv 6))))))
      (pss_one (ps_ret (pv 4))))) pss_nil)
      (pss_cons (ps_set (i := 7) nd rfl (Or.inl rfl) (pe_op op_mod (pv 3) pe_int))
      (pss_cons (ps_for PassesOwn.never rfl (pi_range1 (by rfl) (T.nb' "range") (pa_cons (pe_callB call_len_seq (by rfl) (T.nb' "len") (by decide +kernel) (pa_cons (pv 2) pa_nil)) pa_nil)) (pg_name (i := 8) nd rfl (Or.inl rfl))
      (pss_cons (ps_set (i := 7) nd rfl (Or.inl rfl) (pe_op op_mod (pe_op op_add (pe_op op_mul (pv 7) pe_int) (pe_op op_mul pe_int (pe_op op_add (pv 8) pe_int))) pe_int))
      (pss_cons (ps_set (i := 9) nd rfl (Or.inl rfl) (pe_op op_mod (pe_op op_add (pe_op op_add (pe_op op_mul (pv 7) (pv 7)) (pe_op op_mul pe_int (pv 7))) (pv 8)) pe_int))
      (pss_one (ps_expr (pe_bm PySem.F.plainAttrs_list PySem.F.slot_list_append PySem.F.type_list_append mt_append (pv 4) (pa_cons (pe_op op_mod (pe_op op_fdiv (pv 9) pe_int) (pe_ix ix_list (pv 2) (pv 8) (fun _ _ => rfl))) pa_nil)))))))
      (pss_one (ps_ret (pv 4)))))))), fun σ e => ?_⟩
  obtain ⟨ns, kk, sz⟩ := a
  obtain ⟨hk, hsl, hsz⟩ : 0 ≤ kk ∧ sz.length ≤ 100 ∧ ∀ s ∈ sz, 0 < s ∧ s < 1000000 := pr
  refine q_asg 3 e (.refl sm) (ev_call0 (ns, kk) (ea_cons (ev_v e) (ea_cons (ev_v e) ea_nil)) hk) (by decide) fun σ1 G1 H1 e1 g1 _ => ?_
  obtain ⟨c, _, e1⟩ := Env.open e1
  refine q_newL 4 e1 g1 (by decide) fun p σ2 H2 hp e2 g2 hH2 => ?_
  have p0 : H p = none := g1.hh.free hp
  have pG : G1 p = none := g1.gh.free hp
  refine q_if e2 g2 (et_test (ev_ge (ev_v e2) (ev_pow ev_int ev_int ⟨by decide, by decide, by decide⟩))) (fun hb G3 H3 e3 g3 gg3 => ?_) (fun hb G3 H3 e3 g3 gg3 => ?_)
  · have pG3 : G3 p = none := gg3.fr p pG (by rw [hH2, upd_same]; intro z; cases z)
    have pH3 : H3 p = some (.lst []) := gg3.hh _ _ (by rw [hH2, upd_same])
    refine q_asg 5 e3 g3 (ev_sub (ev_v e3) (ev_pow ev_int ev_int ⟨by decide, by decide, by decide⟩)) (by decide) fun σ4 G4 H4 e4 g4 gg4 => ?_
    have pG4 : G4 p = none := gg4.fr p pG3 (by rw [pH3]; intro z; cases z)
    have pH4 : H4 p = some (.lst []) := gg4.hh _ _ pH3
    refine q_forN g4.gh (src_list (ev_v e4)) fun G5 H5 g5 => ⟨fun j σ' G' H' => Gr G H G' H' ∧ G' p = none ∧ ∃ (r : Int) (out : List Int), H' p = some (.lst (out.map V.int)) ∧ DgOk out (sz.take j) ∧ Env 10 G' σ' [(5, D K (.int r)), (4, Rf p), (2, D K (dInts sz))], ?_, ?_, ?_⟩
    · exact ⟨g4.trans g5, g5.fr p pG4 (by rw [pH4]; intro z; cases z), _, [], g5.hh _ _ pH4, by simp [DgOk], (have e := e4.mono g5.gg; e.pick (e.pick (e.pick e.nil)))⟩
    · rintro j d v σ' G' H' hj s1 s2 hd ⟨g6, z1, r, out, z2, z3, e6⟩
      obtain ⟨o, rfl, ho⟩ := getI hj
      have hso := hsz o (List.mem_of_getElem? ho)
      have e7 := e6.set (i := 6) (R := D K (.int o)) (by decide) hd
      have hlo : out.length ≤ 100 := by rw [z3.len, List.length_take]; omega
      refine q_append e7 g6.gh rfl z2 (by rw [List.length_map]; exact Nat.lt_of_le_of_lt hlo (by decide)) (ev_mod (ev_v e7) (ev_v e7) hso.1) fun v8 G8 H8 g8 r8 => ?_
      cases dp_int r8
      have pG8 : G8 p = none := g8.fr p z1 (by rw [z2]; intro z; cases z)
      have g9 : Gr G H G8 (upd H8 p (.lst (out.map V.int ++ [V.int (r % o)]))) := (g6.trans g8).mut p0 pG8
      have e8 := e7.mono g8.gg
      refine w_asg (i := 5) e8 g9 (ev_fdiv (ev_v e8) (ev_v e8) ⟨hso.1, by omega⟩) (by decide) fun σ10 G10 H10 e10 g10 gg10 => ?_
      refine ⟨G10, s1.trans (g8.gg.trans gg10.gg), gg10.gh, g10, gg10.fr p pG8 (by rw [upd_same]; intro z; cases z), _, out ++ [r % o], ?_, ?_, e10.pick (e10.pick (e10.pick e10.nil))⟩
      · rw [List.map_append]
        exact gg10.hh _ _ upd_same
      · rw [take_snoc ho]
        exact z3.snoc (Int.emod_nonneg _ (by omega)) (Int.emod_lt_of_pos _ hso.1)
    · rintro σ' G' H' s1 s2 ⟨g6, z1, r, out, z2, z3, e6⟩
      rw [List.length_map, List.take_length] at z3
      exact w_retL e6 g6 rfl p0 z1 z2 (dpa_ints out) fun v G' H' g r => k v G' H' g ⟨_, ⟨out, z3, rfl⟩, r⟩
  · have pG3 : G3 p = none := gg3.fr p pG (by rw [hH2, upd_same]; intro z; cases z)
    have pH3 : H3 p = some (.lst []) := gg3.hh _ _ (by rw [hH2, upd_same])
    refine q_asg 7 e3 g3 (ev_mod (ev_v e3) ev_int (by decide)) (by decide) fun σ4 G4 H4 e4 g4 gg4 => ?_
    have pG4 : G4 p = none := gg4.fr p pG3 (by rw [pH3]; intro z; cases z)
    have pH4 : H4 p = some (.lst []) := gg4.hh _ _ pH3
    refine q_forN g4.gh (src_rng (ev_lenL (ev_v e4)) (by omega) (by rw [List.length_map]; show ((sz.length : Nat) : Int) < 2 ^ 62; omega)) fun G5 H5 g5 => ⟨fun j σ' G' H' => Gr G H G' H' ∧ G' p = none ∧ ∃ (r : Int) (out : List Int), (0 ≤ r ∧ r < 2147483647) ∧ H' p = some (.lst (out.map V.int)) ∧ DgOk out (sz.take j) ∧ Env 10 G' σ' [(7, D K (.int r)), (4, Rf p), (2, D K (dInts sz))], ?_, ?_, ?_⟩
    · exact ⟨g4.trans g5, g5.fr p pG4 (by rw [pH4]; intro z; cases z), _, [], ⟨Int.emod_nonneg _ (by decide), Int.emod_lt_of_pos _ (by decide)⟩, g5.hh _ _ pH4, by simp [DgOk], (have e := e4.mono g5.gg; e.pick (e.pick (e.pick e.nil)))⟩
    · rintro j d v σ' G' H' hj s1 s2 hd ⟨g6, z1, r, out, ⟨r0, r1⟩, z2, z3, e6⟩
      have hjl : j < sz.length := by
        obtain ⟨h1, _⟩ := List.getElem?_eq_some_iff.mp hj
        rw [rngD_len] at h1
        simpa using h1
      rw [rngD_get (by simpa using hjl)] at hj
      cases hj
      have ho : sz[j]? = some sz[j] := by simp [hjl]
      generalize sz[j] = o at ho
      have hso := hsz o (List.mem_of_getElem? ho)
      have e7 := e6.set (i := 8) (R := D K (.int (j : Nat))) (by decide) hd
      have hlo : out.length ≤ 100 := by rw [z3.len, List.length_take]; omega
      refine q_asg 7 e7 g6 (ev_mod (ev_add (ev_mul (ev_v e7) ev_int (.inr ⟨by decide, by decide⟩)) (ev_mul ev_int (ev_add (ev_v e7) ev_int) (.inl ⟨by decide, by decide⟩))) ev_int (by decide)) (by decide) fun σ8 G8 H8 e8 g8 gg8 => ?_
      have r2 := Int.emod_nonneg (r * 48271 + 10007 * ((j : Int) + 1)) (show (2147483629 : Int) ≠ 0 by decide)
      have r3 := Int.emod_lt_of_pos (r * 48271 + 10007 * ((j : Int) + 1)) (show (0 : Int) < 2147483629 by decide)
      generalize (r * 48271 + 10007 * ((j : Int) + 1)) % 2147483629 = r' at e8 r2 r3
      refine q_asg 9 e8 g8 (ev_mod (ev_add (ev_add (ev_mul (ev_v e8) (ev_v e8) (.inl ⟨by omega, by omega⟩)) (ev_mul ev_int (ev_v e8) (.inl ⟨by decide, by decide⟩))) (ev_v e8)) ev_int (by decide)) (by decide) fun σ9 G9 H9 e9 g9 gg9 => ?_
      have z9 : H9 p = some (.lst (out.map V.int)) := gg9.hh _ _ (gg8.hh _ _ z2)
      have pG9 : G9 p = none := gg9.fr p (gg8.fr p z1 (by rw [z2]; intro z; cases z)) (by rw [gg8.hh _ _ z2]; intro z; cases z)
      refine w_append e9 g9.gh rfl z9 (by rw [List.length_map]; exact Nat.lt_of_le_of_lt hlo (by decide)) (ev_mod (ev_fdiv (ev_v e9) ev_int ⟨by decide, by decide⟩) (ev_ixL (ev_v e9) (ev_v e9) (atI_nat (by rw [List.getElem?_map, ho]; rfl))) hso.1) fun v10 G10 H10 g10 r10 => ?_
      cases dp_int r10
      have pG10 : G10 p = none := g10.fr p pG9 (by rw [z9]; intro z; cases z)
      have g11 : ∀ o, Gr G H G10 (upd H10 p o) := fun o => (g9.trans g10).mut p0 pG10
      have e10 := e9.mono g10.gg
      refine ⟨G10, s1.trans (gg8.gg.trans (gg9.gg.trans g10.gg)), (g11 _).gh, g11 _, pG10, r', out ++ [(r' * r' + 69621 * r' + (j : Nat)) % 2147483563 / 11 % o], ⟨r2, by omega⟩, ?_, ?_, e10.pick (e10.pick (e10.pick e10.nil))⟩
      · rw [List.map_append]
        exact upd_same
      · rw [take_snoc ho]
        exact z3.snoc (Int.emod_nonneg _ (by omega)) (Int.emod_lt_of_pos _ hso.1)
    · rintro σ' G' H' s1 s2 ⟨g6, z1, r, out, _, z2, z3, e6⟩
      have e0 : (rngD (((sz.map PyData.int).length : Nat) : Int).toNat).length = sz.length := by rw [rngD_len]; simp
      rw [show (rngD (((List.map PyData.int sz).length : Nat) : Int).toNat).length = sz.length from e0, List.take_length] at z3
      exact w_retL e6 g6 rfl p0 z1 z2 (dpa_ints out) fun v G' H' g r => k v G' H' g ⟨_, ⟨out, z3, rfl⟩, r⟩
end
end K3
set_option Elab.async false
set_option linter.all false
set_option maxRecDepth 100000
set_option maxHeartbeats 4000000
namespace K3
open PySem L2 OB
section
variable {P : Program} {w : World} {K : Fg} {mg : Str → Option Value} {base : Heap}
/-! targets as texts: shown_target, _law_mark -/
def mark (t : Int) : Str := if t = 0 then "-" else if t = -1 then "*" else toString t
theorem log_small {t : Int} (h : t.natAbs < 1000) : t.natAbs.log2 < 1920 := by
  by_cases h0 : t.natAbs = 0
  · rw [h0]; decide
  · exact Nat.lt_of_le_of_lt (Nat.log2_le_self _) (by omega)
abbrev s_shown_target : Stmt := top 29
theorem sc_shown_target : FnScope ["target"] ["target"] (defScope s_shown_target) := ⟨rfl, rfl, rfl, by decide +kernel, rfl, by decide +kernel, by decide +kernel⟩
def sp_shown_target (K : Fg) : Sp := spD (α := Int) (fun a => [D K (.int a)]) (fun a => a.natAbs < 1000) (fun a => D K (.str (mark a)))
theorem ok_shown_target (T : Tx mg) (F : Fd K mg "shown_target" s_shown_target ["target"]) : Def P w K mg base "shown_target" 1 ["target"] (sp_shown_target K) := by
  have nd := sc_shown_target.nd
  refine F.okD sc_shown_target (fun _ => rfl) (fun f cdv A outer s H E Q a G hr sm pr k => ?_)
  refine ⟨_, (pss_cons (ps_if (pt_cmpR op_eq (pv 0) (pe_gi (by rfl) T.g_NOTHING) (nomark _)) (pss_one (ps_ret pe_str)) pss_nil)
      (pss_cons (ps_if (pt_cmpR op_eq (pv 0) (pe_gi (by rfl) T.g_GONE) (nomark _)) (pss_one (ps_ret pe_str)) pss_nil)
      (pss_one (ps_ret (pe_callTy call_str_int (by rfl) (T.nb' "str") (by decide +kernel) (pa_cons (pv 0) pa_nil)))))), fun σ e => ?_⟩
  have pr : a.natAbs < 1000 := pr
  refine q_if e (.refl sm) (et_test (ev_eqI (ev_v e) ev_int)) (fun hb G1 H1 e1 g1 _ => ?_) (fun hb G1 H1 e1 g1 _ => ?_)
  · have h : a = 0 := of_decide_eq_true hb
    exact w_ret g1 (ev_str.is (by unfold mark; rw [if_pos h])) k
  · have h : ¬ a = 0 := of_decide_eq_false hb
    refine q_if e1 g1 (et_test (ev_eqI (ev_v e1) ev_int)) (fun hb G2 H2 e2 g2 _ => ?_) (fun hb G2 H2 e2 g2 _ => ?_)
    · have h2 : a = -1 := of_decide_eq_true hb
      exact w_ret g2 (ev_str.is (by unfold mark; rw [if_neg h, if_pos h2])) k
    · have h2 : ¬ a = -1 := of_decide_eq_false hb
      exact w_ret g2 ((ev_strI (ev_v e2) (log_small pr)).is (by unfold mark; rw [if_neg h, if_neg h2])) k
abbrev s_mark : Stmt := top 39
theorem sc_mark : FnScope ["_law_target"] ["_law_target"] (defScope s_mark) := ⟨rfl, rfl, rfl, by decide +kernel, rfl, by decide +kernel, by decide +kernel⟩
def sp_mark (K : Fg) : Sp := spD (α := Int) (fun a => [D K (.int a)]) (fun a => -1 ≤ a ∧ a < 1000) (fun a => D K (.str (mark a)))
theorem ok_mark (T : Tx mg) (F : Fd K mg "_law_mark" s_mark ["_law_target"]) : Def P w K mg base "_law_mark" 1 ["_law_target"] (sp_mark K) := by
  have nd := sc_mark.nd
  refine F.okD sc_mark (fun _ => rfl) (fun f cdv A outer s H E Q a G hr sm pr k => ?_)
  refine ⟨_, (pss_one (ps_ret (pe_ifExp (pt_cmpR op_eq (pv 0) pe_int (nomark _)) pe_str (pe_ifExp (pt_cmpR op_lt (pv 0) pe_int (nomark _)) pe_str (pe_callTy call_str_int (by rfl) (T.nb' "str") (by decide +kernel) (pa_cons (pv 0) pa_nil)))))), fun σ e => ?_⟩
  obtain ⟨p1, p2⟩ : -1 ≤ a ∧ a < 1000 := pr
  refine w_ret (.refl sm) (ev_if (et_test (ev_eqI (ev_v e) ev_int)) (fun hb => ?_) fun hb => ev_if (et_test (ev_lt (ev_v e) ev_int)) (fun hb2 => ?_) fun hb2 => ?_) k
  · have h : a = 0 := of_decide_eq_true hb
    exact ev_str.is (by unfold mark; rw [if_pos h])
  · have h : ¬ a = 0 := of_decide_eq_false hb
    have h2 : a < 0 := of_decide_eq_true hb2
    exact ev_str.is (by unfold mark; rw [if_neg h, if_pos (by omega)])
  · have h : ¬ a = 0 := of_decide_eq_false hb
    have h2 : ¬ a < 0 := of_decide_eq_false hb2
    exact (ev_strI (ev_v e) (log_small (by omega))).is (by unfold mark; rw [if_neg h, if_neg (by omega)])
/-! items -/
abbrev Item := Str × List Int
abbrev Nm := Str × Int
def tInts (ns : List Int) : PyData := .tuple (ns.map .int)
def dIt (p : Item) : PyData := .tuple [.str p.1, tInts p.2]
def dNm (p : Nm) : PyData := .tuple [.str p.1, .int p.2]
def itemOk (p : Item) (n : Int) : Bool := (isWord p.1 2 8 && decide (p.2.length ≤ 2)) && ((!decide (p.1 = "cell")) || decide (p.2.length = 2)) && p.2.all fun t => isTgt t n
abbrev s_is_item : Stmt := top 22
abbrev n_is_item : List Str := ["item", "points", "word", "targets", "target"]
theorem sc_is_item : FnScope n_is_item ["item", "points"] (defScope s_is_item) := ⟨rfl, rfl, rfl, by decide +kernel, rfl, by decide +kernel, by decide +kernel⟩
def sp_is_item (K : Fg) : Sp := spD (α := Item × Int) (fun a => [D K (dIt a.1), D K (.int a.2)]) (fun a => a.1.1.length ≤ 1000 ∧ a.1.2.length ≤ 1000 ∧ itemOk a.1 a.2 = true) (fun a => D K (.bool true))
def intOf : PyData → Int
  | .int i => i
  | _ => 0
def strOf : PyData → Str
  | .str z => z
  | _ => Str.empty
/-- a comprehension over ints -/
theorem ev_lcI {σ : L2.St} {G : Hp} {wi : TI} {te : TE} {n j : Nat} {l : List (Nat × Pr)} {ns : List Int} (f : Int → PyData) (hs : Src K wi σ G (ns.map .int)) (hl : ns.length ≤ 1000) (E : Env n G σ l) (l' : List (Nat × Pr)) (hl' : ∀ k R, l'.lookup k = some R → l.lookup k = some R ∧ k ≠ j) (hj : j < n)
    (ht : ∀ o σ2 G', o ∈ ns → Same G G' → Env n G' σ2 ((j, D K (.int o)) :: l') → Ev te σ2 G' (D K (f o))) : Ev (tLc wi (gName j) tYes te [j]) σ G (D K (.list (ns.map f))) := by
  have e : ns.map f = (ns.map PyData.int).map fun d => f (intOf d) := by
    rw [List.map_map]
    rfl
  rw [e]
  refine ev_lc _ hs (by rw [List.length_map]; exact hl) fun k d v G' h1 h2 h3 => ?_
  obtain ⟨o, rfl, ho⟩ := getI h1
  exact ⟨_, tg_name, wipe_set1, ht o _ G' (List.mem_of_getElem? ho) h2 (((E.wipe1 hl').mono h2).set hj h3)⟩
theorem lk0 {l : List (Nat × Pr)} {j : Nat} : ∀ k R, ([] : List (Nat × Pr)).lookup k = some R → l.lookup k = some R ∧ k ≠ j := fun k R q => by cases q
theorem lkc {i : Nat} {S : Pr} {l l' : List (Nat × Pr)} {j : Nat} (ha : i ≠ j) (h : l.lookup i = some S) (h' : ∀ k R, l'.lookup k = some R → l.lookup k = some R ∧ k ≠ j) : ∀ k R, ((i, S) :: l').lookup k = some R → l.lookup k = some R ∧ k ≠ j := fun k R q => by
  rw [List.lookup_cons] at q
  by_cases hk : k = i
  · subst hk
    simp only [beq_self_eq_true] at q
    cases q
    exact ⟨h, ha⟩
  · rw [show (k == i) = false by simpa using hk] at q
    exact h' k R q
theorem all_map_id {α : Type} (l : List α) (p : α → Bool) : (l.map p).all id = l.all p := by
  rw [List.all_map]
  rfl
theorem ok_is_item (T : Tx mg) (F : Fd K mg "is_item" s_is_item ["item", "points"]) (Dis_small_word : Def P w K mg base "is_small_word" 1 ["text", "least", "most"] (sp_is_small_word K)) (Dis_target : Def P w K mg base "is_target" 1 ["target", "points"] (sp_is_target K)) : Def P w K mg base "is_item" 2 ["item", "points"] (sp_is_item K) := by
  have nd := sc_is_item.nd
  refine F.okD sc_is_item (fun _ => rfl) (fun f cdv A outer s H E Q a G hr sm pr k => ?_)
  refine ⟨_, (pss_cons (ps_asg (pv 0) (pg_tup rfl (pgs_cons (pg_name (i := 2) nd rfl (Or.inl rfl)) (pgs_cons (pg_name (i := 3) nd rfl (Or.inl rfl)) pgs_nil))))
      (pss_cons (ps_if (PW.pt (pw_or (pt_not (pt_val (pe_def Dis_small_word hr (by rfl) (pa_cons (pv 2) (pa_cons pe_int (pa_cons pe_int pa_nil)))))) (pw_or1 (pt_cmpR op_gt (pe_callB call_len_seq (by rfl) (T.nb' "len") (by decide +kernel) (pa_cons (pv 3) pa_nil)) (pe_gi (by rfl) T.g_MOST_TARGETS) (nomark _))))) (pss_one (ps_ret pe_bl)) pss_nil)
      (pss_cons (ps_if (PW.pt (pw_and (pt_cmpR op_eq (pv 2) (pe_gs (by rfl) T.g_CELL) (nomark _)) (pw_and1 (pt_cmpR op_ne (pe_callB call_len_seq (by rfl) (T.nb' "len") (by decide +kernel) (pa_cons (pv 3) pa_nil)) (pe_gi (by rfl) T.g_CELL_TARGETS) (nomark _))))) (pss_one (ps_ret pe_bl)) pss_nil)
      (pss_one (ps_ret (pe_callB (cr_all rfl) (by rfl) (T.nb' "all") (by decide +kernel) (pa_cons (pe_lc (own := [("target", 4)]) (g := (gName 4)) rfl nd (pi_tup (pv 3)) (blkOk_by (by kernel_rfl)) (fun _ _ _ _ _ => (pg_name (i := 4) nd rfl (Or.inl rfl))) (fun _ _ _ _ _ => pts_nil) (fun _ _ _ _ _ => (pe_def Dis_target hr (by rfl) (pa_cons (pv 4) (pa_cons (pv 1) pa_nil))))) pa_nil))))))), fun σ e => ?_⟩
  obtain ⟨⟨wd, ts⟩, n⟩ := a
  obtain ⟨p1, p2, p3⟩ : wd.length ≤ 1000 ∧ ts.length ≤ 1000 ∧ itemOk (wd, ts) n = true := pr
  unfold itemOk at p3
  simp only [Bool.and_eq_true] at p3
  obtain ⟨⟨⟨q1, q2⟩, q3⟩, q4⟩ := p3
  refine q_tup2 2 3 e (.refl sm) (ev_v e) (by decide) (by decide) fun σ1 G1 H1 e1 g1 _ => ?_
  have hlen : ((ts.map PyData.int).length : Int) = (ts.length : Int) := by rw [List.length_map]
  refine q_if e1 g1 ((et_or (et_not (et_B (ev_call0 (wd, 2, 8) (ea_cons (ev_v e1) (ea_cons ev_int (ea_cons ev_int ea_nil))) p1))) fun _ => et_test (ev_gt (ev_lenT (ev_v e1)) ev_int)).is (c := false) ?_) (fun hb => nomatch hb) (fun _ G2 H2 e2 g2 _ => ?_)
  · have h2 := of_decide_eq_true q2
    rw [q1, hlen]
    simp only [Bool.not_true, Bool.false_or]
    exact decide_eq_false (by omega)
  refine q_if e2 g2 ((et_and (et_test (ev_eqS (ev_v e2) ev_str)) fun _ => et_test (ev_neI (ev_lenT (ev_v e2)) ev_int)).is (c := false) ?_) (fun hb => nomatch hb) (fun _ G3 H3 e3 g3 _ => ?_)
  · rw [hlen]
    by_cases h : wd = ("cell" : Str)
    · have q5 : decide (ts.length = 2) = true := by
        rw [decide_eq_true h] at q3
        simpa using q3
      have h2 := of_decide_eq_true q5
      rw [h2]
      simp
    · rw [decide_eq_false h]
      rfl
  refine w_ret g3 ((ev_all (bs := ts.map fun t => isTgt t n) ?_).is (by rw [all_map_id, q4])) k
  rw [List.map_map]
  exact ev_lcI (fun t => .bool (isTgt t n)) (src_tup (ev_v e3)) p2 e3 [(1, D K (.int n))] (lkc (by decide) rfl lk0) (by decide) fun o σ2 G' _ _ e4 => ev_call0 (o, n) (ea_cons (ev_v e4) (ea_cons (ev_v e4) ea_nil)) trivial
end
end K3
set_option Elab.async false
set_option linter.all false
namespace K3
/-! points met, in order -/
def meet1 (o : List Int) (t : Int) : List Int := if 0 < t ∧ ¬ t ∈ o then o ++ [t] else o
def meetL (o ts : List Int) : List Int := ts.foldl meet1 o
def stepAt (adj : Int → List Int) (k : Nat) (o : List Int) : List Int := match o[k]? with
  | some x => meetL o (adj x)
  | none => o
def run (adj : Int → List Int) (o : List Int) : Nat → List Int
  | 0 => o
  | n + 1 => stepAt adj n (run adj o n)
theorem meetL_cons (o ts : List Int) (t : Int) : meetL o (t :: ts) = meetL (meet1 o t) ts := rfl
theorem meetL_snoc (o ts : List Int) (t : Int) : meetL o (ts ++ [t]) = meet1 (meetL o ts) t := by
  unfold meetL
  rw [List.foldl_append]
  rfl
theorem meet1_pre (o : List Int) (t : Int) : ∃ s, meet1 o t = o ++ s := by
  unfold meet1
  by_cases h : 0 < t ∧ ¬ t ∈ o
  · rw [if_pos h]; exact ⟨_, rfl⟩
  · rw [if_neg h]; exact ⟨[], by simp⟩
theorem meetL_pre : ∀ (ts o : List Int), ∃ s, meetL o ts = o ++ s
  | [], o => ⟨[], by simp [meetL]⟩
  | t :: ts, o => by
    obtain ⟨s1, h1⟩ := meet1_pre o t
    obtain ⟨s2, h2⟩ := meetL_pre ts (meet1 o t)
    exact ⟨s1 ++ s2, by rw [meetL_cons, h2, h1, List.append_assoc]⟩
/-- what holds of all that may be met holds of all that is met -/
theorem meetL_all {P : Int → Prop} : ∀ (ts o : List Int), (∀ x ∈ o, P x) → (∀ t ∈ ts, 0 < t → P t) → ∀ x ∈ meetL o ts, P x
  | [], o, h, _ => h
  | t :: ts, o, h, ht => by
    rw [meetL_cons]
    refine meetL_all ts _ (fun x hx => ?_) fun u hu => ht u (List.mem_cons_of_mem _ hu)
    unfold meet1 at hx
    by_cases h1 : 0 < t ∧ ¬ t ∈ o
    · rw [if_pos h1] at hx
      rcases List.mem_append.mp hx with hx | hx
      · exact h x hx
      · rw [List.mem_singleton.mp hx]; exact ht t List.mem_cons_self h1.1
    · rw [if_neg h1] at hx
      exact h x hx
theorem meet1_len (o : List Int) (t : Int) : (meet1 o t).length ≤ o.length + 1 := by
  unfold meet1
  split
  · simp
  · omega
theorem meetL_len : ∀ (ts o : List Int), (meetL o ts).length ≤ o.length + ts.length
  | [], o => by simp [meetL]
  | t :: ts, o => by
    rw [meetL_cons]
    have h1 := meetL_len ts (meet1 o t)
    have h2 := meet1_len o t
    rw [List.length_cons]
    omega
theorem meet1_nd {o : List Int} {t : Int} (h : o.Nodup) : (meet1 o t).Nodup := by
  unfold meet1
  by_cases h1 : 0 < t ∧ ¬ t ∈ o
  · rw [if_pos h1, List.nodup_append]
    refine ⟨h, by simp, fun a ha b hb => ?_⟩
    rw [List.mem_singleton.mp hb]
    exact fun z => h1.2 (z ▸ ha)
  · rw [if_neg h1]; exact h
theorem meetL_nd : ∀ (ts : List Int) {o : List Int}, o.Nodup → (meetL o ts).Nodup
  | [], _, h => h
  | t :: ts, _, h => by rw [meetL_cons]; exact meetL_nd ts (meet1_nd h)
theorem stepAt_pre (adj : Int → List Int) (k : Nat) (o : List Int) : ∃ s, stepAt adj k o = o ++ s := by
  unfold stepAt
  cases o[k]? with
  | none => exact ⟨[], by simp⟩
  | some x => exact meetL_pre _ _
theorem run_pre (adj : Int → List Int) (o : List Int) : ∀ n, ∃ s, run adj o n = o ++ s
  | 0 => ⟨[], by simp [run]⟩
  | n + 1 => by
    obtain ⟨s1, h1⟩ := run_pre adj o n
    obtain ⟨s2, h2⟩ := stepAt_pre adj n (run adj o n)
    exact ⟨s1 ++ s2, by show stepAt adj n (run adj o n) = _; rw [h2, h1, List.append_assoc]⟩
theorem run_nd {adj : Int → List Int} {o : List Int} (h : o.Nodup) : ∀ n, (run adj o n).Nodup
  | 0 => h
  | n + 1 => by
    show (stepAt adj n (run adj o n)).Nodup
    unfold stepAt
    cases (run adj o n)[n]? with
    | none => exact run_nd h n
    | some x => exact meetL_nd _ (run_nd h n)
theorem run_all {adj : Int → List Int} {o : List Int} {P : Int → Prop} (h : ∀ x ∈ o, P x) (ha : ∀ x, P x → ∀ t ∈ adj x, 0 < t → P t) : ∀ n, ∀ x ∈ run adj o n, P x
  | 0 => h
  | n + 1 => by
    show ∀ x ∈ stepAt adj n (run adj o n), P x
    have ih := run_all h ha n
    unfold stepAt
    cases q : (run adj o n)[n]? with
    | none => exact ih
    | some y => exact meetL_all _ _ ih (ha y (ih y (List.mem_of_getElem? q)))
/-- once all is gone through, nothing more comes -/
theorem run_stop {adj : Int → List Int} {o : List Int} {m : Nat} (h : (run adj o m).length ≤ m) : ∀ k, run adj o (m + k) = run adj o m
  | 0 => rfl
  | k + 1 => by
    show stepAt adj (m + k) (run adj o (m + k)) = _
    rw [run_stop h k]
    unfold stepAt
    rw [List.getElem?_eq_none (by omega)]
theorem run_len_mono {adj : Int → List Int} {o : List Int} : ∀ {m n : Nat}, m ≤ n → (run adj o m).length ≤ (run adj o n).length := by
  intro m n h
  induction n with
  | zero => rw [Nat.le_zero.mp h]; exact Nat.le_refl _
  | succ n ih =>
    by_cases e : m = n + 1
    · rw [e]; exact Nat.le_refl _
    · refine Nat.le_trans (ih (by omega)) ?_
      obtain ⟨s, hs⟩ := stepAt_pre adj n (run adj o n)
      show _ ≤ (stepAt adj n (run adj o n)).length
      rw [hs, List.length_append]
      omega
def upTo (n : Nat) : List Int := (List.range n).map fun (i : Nat) => (i : Int) + 1
theorem upTo_len (n : Nat) : (upTo n).length = n := by simp [upTo]
theorem mem_upTo {n : Nat} {x : Int} : x ∈ upTo n ↔ 1 ≤ x ∧ x ≤ n := by
  unfold upTo
  simp only [List.mem_map, List.mem_range]
  constructor
  · rintro ⟨a, h, rfl⟩; omega
  · rintro ⟨h1, h2⟩; exact ⟨(x - 1).toNat, by omega, by omega⟩
theorem upTo_get {n k : Nat} (h : k < n) : (upTo n)[k]? = some ((k : Int) + 1) := by simp [upTo, h]
theorem nd_upTo (n : Nat) : (upTo n).Nodup := by
  unfold upTo
  unfold List.Nodup
  rw [List.pairwise_map]
  exact (List.nodup_range (n := n)).imp fun {a b} h z => h (by omega)
theorem len_le {o : List Int} {n : Nat} (h : o.Nodup) (ha : ∀ x ∈ o, 1 ≤ x ∧ x ≤ (n : Int)) : o.length ≤ n := by
  have := List.Nodup.length_le_of_subset h (l₂ := upTo n) fun x hx => mem_upTo.mpr (ha x hx)
  rw [upTo_len] at this
  exact this
/-! other numbers -/
theorem meet1_map {f : Int → Int} {P : Int → Prop} (inj : ∀ x y, P x → P y → f x = f y → x = y) (pos : ∀ x, P x → (0 < f x ↔ 0 < x)) {o : List Int} {t : Int} (ho : ∀ x ∈ o, P x) (ht : P t) : meet1 (o.map f) (f t) = (meet1 o t).map f := by
  unfold meet1
  have e : (0 < f t ∧ ¬ f t ∈ o.map f) ↔ (0 < t ∧ ¬ t ∈ o) := by
    rw [pos t ht]
    refine and_congr_right fun _ => not_congr ⟨fun h => ?_, fun h => List.mem_map_of_mem h⟩
    obtain ⟨x, h1, h2⟩ := List.mem_map.mp h
    exact inj x t (ho x h1) ht h2 ▸ h1
  by_cases h : 0 < t ∧ ¬ t ∈ o
  · rw [if_pos h, if_pos (e.mpr h), List.map_append]
    rfl
  · rw [if_neg h, if_neg fun z => h (e.mp z)]
theorem meetL_map {f : Int → Int} {P : Int → Prop} (inj : ∀ x y, P x → P y → f x = f y → x = y) (pos : ∀ x, P x → (0 < f x ↔ 0 < x)) : ∀ (ts : List Int) {o : List Int}, (∀ x ∈ o, P x) → (∀ t ∈ ts, P t) → meetL (o.map f) (ts.map f) = (meetL o ts).map f
  | [], _, _, _ => rfl
  | t :: ts, o, ho, ht => by
    rw [List.map_cons, meetL_cons, meetL_cons, meet1_map inj pos ho (ht t List.mem_cons_self)]
    refine meetL_map inj pos ts (fun x hx => ?_) fun u hu => ht u (List.mem_cons_of_mem _ hu)
    have := meetL_all (P := P) [t] o ho (fun u hu _ => ht u (by rw [List.mem_singleton.mp hu]; exact List.mem_cons_self)) x
    exact this hx
theorem run_map {f : Int → Int} {P : Int → Prop} (inj : ∀ x y, P x → P y → f x = f y → x = y) (pos : ∀ x, P x → (0 < f x ↔ 0 < x)) {adj adj' : Int → List Int} {o : List Int} (ho : ∀ x ∈ o, P x ∧ 0 < x) (hP : ∀ x, P x → 0 < x → ∀ t ∈ adj x, P t) (ha : ∀ x, P x → 0 < x → adj' (f x) = (adj x).map f) :
    ∀ n, run adj' (o.map f) n = (run adj o n).map f
  | 0 => rfl
  | n + 1 => by
    show stepAt adj' n (run adj' (o.map f) n) = (stepAt adj n (run adj o n)).map f
    rw [run_map inj pos ho hP ha n]
    have al : ∀ x ∈ run adj o n, P x ∧ 0 < x := run_all ho (fun x hx t ht h0 => ⟨hP x hx.1 hx.2 t ht, h0⟩) n
    unfold stepAt
    rw [List.getElem?_map]
    cases q : (run adj o n)[n]? with
    | none => rfl
    | some x =>
      obtain ⟨h1, h2⟩ := al x (List.mem_of_getElem? q)
      show meetL ((run adj o n).map f) (adj' (f x)) = _
      rw [ha x h1 h2]
      exact meetL_map inj pos _ (fun y hy => (al y hy).1) (hP x h1 h2)
end K3
set_option Elab.async false
set_option linter.all false
set_option maxRecDepth 100000
set_option maxHeartbeats 1000000
namespace K3
open PySem L2 OB
section
variable {P : Program} {w : World} {K : Fg} {mg : Str → Option Value} {base : Heap}
/-! renumbered -/
abbrev n_renumbered : List Str := ["item", "numbers", "word", "targets", "target"]
abbrev s_renumbered : Stmt := top 27
theorem sc_renumbered : FnScope n_renumbered ["item", "numbers"] (defScope s_renumbered) := ⟨rfl, rfl, rfl, by decide +kernel, rfl, by decide +kernel, by decide +kernel⟩
/-- a dict from ints to ints -/
def NumD (f : Int → Option Int) : Key → Option PyData
  | .inl i => (f i).map .int
  | .inr _ => none
def sp_renumbered (K : Fg) : Sp := spD (α := Item × List Key × (Int → Option Int) × (Int → Int)) (fun a => [D K (dIt a.1), DicP K a.2.1 (NumD a.2.2.1)]) (fun a => a.1.2.length ≤ 1000 ∧ ∀ t ∈ a.1.2, a.2.2.1 t = some (a.2.2.2 t)) (fun a => D K (dIt (a.1.1, a.1.2.map a.2.2.2)))
theorem ok_renumbered (T : Tx mg) (F : Fd K mg "renumbered" s_renumbered ["item", "numbers"]) : Def P w K mg base "renumbered" 1 ["item", "numbers"] (sp_renumbered K) := by
  have nd := sc_renumbered.nd
  refine F.okD sc_renumbered (fun _ => rfl) (fun f cdv A outer s H E Q a G hr sm pr k => ?_)
  have hu := hu_of hr
  refine ⟨_, (pss_cons (ps_asg (pv 0) (pg_tup rfl (pgs_cons (pg_name (i := 2) nd rfl (Or.inl rfl)) (pgs_cons (pg_name (i := 3) nd rfl (Or.inl rfl)) pgs_nil))))
      (pss_one (ps_ret (pe_tup (pa_cons (pv 2) (pa_cons (pe_callTy call_tuple_of (by rfl) (T.nb' "tuple") (by decide +kernel) (pa_cons (pe_lc (own := [("target", 4)]) (g := (gName 4)) rfl nd (pi_tup (pv 3)) (blkOk_by (by kernel_rfl)) (fun _ _ _ _ _ => (pg_name (i := 4) nd rfl (Or.inl rfl))) (fun _ _ _ _ _ => pts_nil) (fun _ _ _ _ _ => (pe_dget hu (pv 1) (pv 4) (fun _ _ => rfl)))) pa_nil)) pa_nil)))))), fun σ e => ?_⟩
  obtain ⟨⟨wd, ts⟩, ks, nf, g⟩ := a
  obtain ⟨p1, p2⟩ : ts.length ≤ 1000 ∧ ∀ t ∈ ts, nf t = some (g t) := pr
  refine q_tup2 2 3 e (.refl sm) (ev_v e) (by decide) (by decide) fun σ1 G1 H1 e1 g1 _ => ?_
  refine w_ret g1 (ev_tup [.str wd, tInts (ts.map g)] (ea_cons (ev_v e1) (ea_cons (ev_tupL ?_) ea_nil)) (by show 2 ≤ sizeLine; decide)) k
  rw [List.map_map]
  refine ev_lcI (fun t => .int (g t)) (src_tup (ev_v e1)) p1 e1 [(1, DicP K ks (NumD nf))] (lkc (by decide) rfl lk0) (by decide) fun o σ2 G' ho _ e4 => ev_dget (k := .inl o) (ev_v e4) (ev_v e4) ?_
  show (nf o).map PyData.int = _
  rw [p2 o ho]
  rfl
/-! meet: both lists and the dict are the caller's, and change -/
abbrev n_meet : List Str := ["targets", "order", "met", "target"]
abbrev s_meet : Stmt := top 25
theorem sc_meet : FnScope n_meet ["targets", "order", "met"] (defScope s_meet) := ⟨rfl, rfl, rfl, by decide +kernel, rfl, by decide +kernel, by decide +kernel⟩
/-- the dict of what was met: 0, -1 and the points of o -/
def MetAt (kvs : List (Key × V)) (o : List Int) : Prop := (∀ t : Int, (valV kvs (.inl t)).isSome = true ↔ t = 0 ∨ t = -1 ∨ t ∈ o) ∧ kvs.length ≤ o.length + 2
def sp_meet (K : Fg) : Sp := fun vs H Q _ => ∃ (v : V) (p q : Addr) (ts o : List Int) (kvs : List (Key × V)), vs = [v, .ref p, .ref q] ∧ (∃ G, Same G H ∧ G p = none ∧ G q = none ∧ (Dp K G v (dInts ts) ∨ Dp K G v (tInts ts))) ∧
  H p = some (.lst (o.map V.int)) ∧ H q = some (.dK kvs) ∧ MetAt kvs o ∧ (∀ t ∈ ts, -1 ≤ t) ∧ o.length ≤ 1000 ∧ ts.length ≤ 1000 ∧
  ∀ kvs' H', H' p = some (.lst ((meetL o ts).map V.int)) → H' q = some (.dK kvs') → MetAt kvs' (meetL o ts) → (∀ b u, b ≠ p → b ≠ q → H b = some u → H' b = some u) → Q .non H'
theorem MetAt.put {kvs : List (Key × V)} {o : List Int} {t : Int} {v : V} (h : MetAt kvs o) (ht : 0 < t) (hn : ¬ t ∈ o) : MetAt (putK kvs (.inl t) v) (o ++ [t]) := by
  refine ⟨fun x => ?_, ?_⟩
  · rw [valV_put]
    by_cases hx : (Sum.inl x : Key) = .inl t
    · rw [if_pos hx]
      cases hx
      simp
    · rw [if_neg hx, h.1 x]
      have : x ≠ t := fun z => hx (by rw [z])
      simp [this]
  · have hv : valV kvs (.inl t) = none := by
      cases q : valV kvs (.inl t) with
      | none => rfl
      | some u =>
        have := (h.1 t).mp (by rw [q]; rfl)
        rcases this with z | z | z
        · omega
        · omega
        · exact absurd z hn
    rw [putK_new _ hv, List.length_append, List.length_append]
    have := h.2
    simp only [List.length_singleton]
    omega
theorem ok_meet (T : Tx mg) (F : Fd K mg "meet" s_meet ["targets", "order", "met"]) : Def P w K mg base "meet" 1 ["targets", "order", "met"] (sp_meet K) := by
  have nd := sc_meet.nd
  refine F.okS sc_meet (fun vs H Q E h => ?_) (fun f cdv A outer s H vs Q E hr h => ?_)
  · obtain ⟨v, p, q, ts, o, kvs, rfl, _⟩ := h
    rfl
  have hu := hu_of hr
  obtain ⟨v, p, q, ts, o, kvs, rfl, ⟨G, sm, gp, gq, hv⟩, hp, hq, hm, ht, hol, htl, k⟩ := h
  have npq : p ≠ q := ne_of hp hq (by intro z; cases z)
  refine ⟨_, (pss_one (ps_for PassesOwn.never rfl (pi_or (pi_list (pv 0)) (pi_tup (pv 0))) (pg_name (i := 3) nd rfl (Or.inl rfl))
      (pss_one (ps_if (pt_cmp (pc_dnotin hu (pv 3) (pv 2))) (pss_cons (ps_dput hu (pv 2) (pv 3) pe_bl rfl)
      (pss_one (ps_expr (pe_bm PySem.F.plainAttrs_list PySem.F.slot_list_append PySem.F.type_list_append mt_append (pv 1) (pa_cons (pv 3) pa_nil))))) pss_nil)))), ?_⟩
  have hsrc : Src K (fun σ H R => iList K (tVar 0) σ H R ∨ iTup K (tVar 0) σ H R) (L2.start n_meet [v, .ref p, .ref q]) G (ts.map .int) := by
    rcases hv with hv | hv
    · exact src_orL (src_list (fun H s Q q => ⟨v, rfl, q v G H (.refl s) hv⟩))
    · exact src_orR (src_tup (fun H s Q q => ⟨v, rfl, q v G H (.refl s) hv⟩))
  refine w_forN sm hsrc fun G1 H1 g1 => ⟨fun j σ' G' H' => ∃ x kvs', σ' = [some v, some (.ref p), some (.ref q), x] ∧ G' p = none ∧ G' q = none ∧ H' p = some (.lst ((meetL o (ts.take j)).map V.int)) ∧ H' q = some (.dK kvs') ∧ MetAt kvs' (meetL o (ts.take j)) ∧ (∀ b u, b ≠ p → b ≠ q → H b = some u → H' b = some u), ?_, ?_, ?_⟩
  · exact ⟨none, kvs, rfl, g1.fr p gp (by rw [hp]; intro z; cases z), g1.fr q gq (by rw [hq]; intro z; cases z), by simpa [meetL] using g1.hh _ _ hp, g1.hh _ _ hq, by simpa [meetL] using hm, fun b u _ _ e => g1.hh _ _ e⟩
  · rintro j d vj σ' G' H' hj s1 s2 hd ⟨x, kvs', rfl, z1, z2, z3, z4, z5, z6⟩
    obtain ⟨t, rfl, hjt⟩ := getI hj
    cases dp_int hd
    have ht' := ht t (List.mem_of_getElem? hjt)
    have hlen : (meetL o (ts.take j)).length ≤ 2000 := Nat.le_trans (meetL_len _ _) (by rw [List.length_take]; omega)
    have e1 : meetL o (ts.take (j + 1)) = meet1 (meetL o (ts.take j)) t := by rw [take_snoc hjt, meetL_snoc]
    refine ⟨_, rfl, _, rfl, q, _, rfl, DGet.k (k := Sum.inl t) z4, _, rfl, ?_⟩
    generalize meetL o (ts.take j) = oj at z3 z5 e1 hlen
    have hiff : (!(valV kvs' (Sum.inl t : Key)).isSome) = true ↔ (0 < t ∧ ¬ t ∈ oj) := by
      have := z5.1 t
      cases q : (valV kvs' (Sum.inl t : Key)).isSome with
      | true =>
        have h := this.mp q
        simp only [Bool.not_true, Bool.false_eq_true, false_iff]
        rintro ⟨a, b⟩
        rcases h with h | h | h
        · omega
        · omega
        · exact b h
      | false =>
        simp only [Bool.not_false, true_iff]
        have h : ¬ (t = 0 ∨ t = -1 ∨ t ∈ oj) := fun z => by rw [this.mpr z] at q; cases q
        simp only [not_or] at h
        exact ⟨by omega, h.2.2⟩
    by_cases hc : (!(valV kvs' (Sum.inl t : Key)).isSome) = true
    · rw [if_pos hc]
      obtain ⟨t0, tn⟩ := hiff.mp hc
      have el : (oj.map V.int).length < sizeLine ∧ kvs'.length < sizeLine := by
        have := z5.2
        exact ⟨by rw [List.length_map]; exact Nat.lt_of_le_of_lt hlen (by decide), Nat.lt_of_le_of_lt (Nat.le_trans this (Nat.add_le_add_right hlen 2)) (by decide)⟩
      refine ⟨_, rfl, _, rfl, q, _, rfl, DPut.k (k := Sum.inl t) z4 el.2, ?_⟩
      refine ⟨_, rfl, .inl ⟨rfl, _, SqL.of (by rw [upd_ne npq]; exact z3)⟩, _, rfl, p, _, _, rfl, rfl, by rw [upd_ne npq]; exact z3, el.1, ?_⟩
      refine ⟨G', s1, same_mut (same_mut s2 z2) z1, _, _, rfl, z1, z2, ?_, by rw [upd_ne npq.symm]; exact upd_same, ?_, fun b u h1 h2 e => by rw [upd_ne h1, upd_ne h2]; exact z6 b u h1 h2 e⟩
      · rw [e1]
        unfold meet1
        rw [if_pos ⟨t0, tn⟩, List.map_append]
        exact upd_same
      · rw [e1]
        unfold meet1
        rw [if_pos ⟨t0, tn⟩]
        exact z5.put t0 tn
    · rw [if_neg hc]
      have e2 : meet1 oj t = oj := by
        unfold meet1
        rw [if_neg fun z => hc (hiff.mpr z)]
      exact ⟨G', s1, s2, _, kvs', rfl, z1, z2, by rw [e1, e2]; exact z3, z4, by rw [e1, e2]; exact z5, z6⟩
  · rintro σ' G' H' s1 s2 ⟨x, kvs', rfl, z1, z2, z3, z4, z5, z6⟩
    rw [List.length_map, List.take_length] at z3 z5
    exact k kvs' H' z3 z4 z5 z6
end
end K3
set_option Elab.async false
set_option linter.all false
set_option maxRecDepth 100000
set_option maxHeartbeats 400000
namespace OB
open PySem L2
section
variable {K : Fg} {σ : L2.St} {G G1 H : Hp} {te ta tb tc : TE}
def SrcE {α : Type} (K : Fg) (wi : TI) (σ : L2.St) (G : Hp) (P : α → Prop) (ds : α → List PyData) : Prop := ∀ H, Same G H → ∀ R : It → Hp → Prop,
  (∀ a, P a → ∀ J G' H' xs, Gr G H G' H' → DpAll K G' xs (ds a) → Walk J (ds a).length (fun H => Same G' H) (YAt xs) → R J H') → wi σ H R
theorem srcE_list {α : Type} {P : α → Prop} {ds : α → List PyData} (h : Ev te σ G (PrE P fun a => D K (.list (ds a)))) : SrcE K (iList K te) σ G P ds := fun H s R k => h H s _ fun v G' H' g ⟨a, pa, r⟩ => by
  obtain ⟨p, xs, rfl, hs, hd⟩ := dp_lst r
  refine ⟨p, rfl, ⟨xs, g.gh.seq hs⟩, k a pa _ G' H' xs g hd ?_⟩
  rw [← dpa_len hd]
  exact walk_list.mono (fun H s => s.seq hs) fun _ _ _ _ _ _ y => y
theorem src_here {J : It} {ds : List PyData} {xs : List V} (hx : DpAll K G xs ds) (wk : Walk J ds.length (fun H => Same G H) (YAt xs)) : Src K (fun _ H R => R J H) σ G ds := fun H s R k => k J G H xs (.refl s) hx wk
theorem PrE.imp {α β : Type} {P : α → Prop} {f : α → Pr} {R : β → Prop} {g : β → Pr} (h : Ev te σ G (PrE P f)) (hh : ∀ a, P a → ∃ b, R b ∧ ∀ v G, (f a).r v G → (g b).r v G) : Ev te σ G (PrE R g) := h.imp fun v G ⟨a, pa, r⟩ => let ⟨b, rb, k⟩ := hh a pa; ⟨b, rb, k v G r⟩
theorem ev_lcE {α : Type} {P : α → Prop} {ds : α → List PyData} {wi : TI} {g : TG} {vs : List Nat} (f : α → PyData → PyData) (hs : SrcE K wi σ G P ds) (hl : ∀ a, P a → (ds a).length ≤ 1000)
    (ht : ∀ a, P a → ∀ (k : Nat) d v G', (ds a)[k]? = some d → Same G G' → Dp K G' v d → ∃ σ2, Tg g (wipe σ vs) G' v σ2 ∧ wipe σ2 vs = wipe σ vs ∧ Ev te σ2 G' (D K (f a d))) :
    Ev (tLc wi g tYes te vs) σ G (PrE P fun a => D K (.list ((ds a).map (f a)))) := fun H s Q q => hs H s _ fun a pa J G1 H1 xs g1 hx wk =>
  (ev_lc (f a) (src_here (σ := σ) hx wk) (hl a pa) fun k d v G' h1 h2 h3 => ht a pa k d v G' h1 (g1.gg.trans h2) h3) H1 g1.gh Q fun v G' H' g' r => q v G' H' (g1.trans g') ⟨a, pa, r⟩
theorem Env.wipe2 {n i j : Nat} {l l' : List (Nat × Pr)} (h : Env n G σ l) (hl : ∀ k R, l'.lookup k = some R → l.lookup k = some R ∧ k ≠ i ∧ k ≠ j) : Env n G (wipe σ [i, j]) l' := by
  refine ⟨by rw [wipe_length]; exact h.len, fun k R q => ?_⟩
  obtain ⟨h1, h2, h3⟩ := hl k R q
  obtain ⟨v, h4, h5⟩ := h.get k R h1
  refine ⟨v, ?_, h5⟩
  show ((σ.set j none).set i none)[k]? = _
  rw [List.getElem?_set_ne (fun z => h2 z.symm), List.getElem?_set_ne (fun z => h3 z.symm)]
  exact h4
/-- a comprehension over pairs of a text and an int -/
theorem ev_lcN {α : Type} {P : α → Prop} {n i j : Nat} {l l' : List (Nat × Pr)} {wi : TI} {nm : α → List (Str × Int)} (f : Str × Int → PyData) (hs : SrcE K wi σ G P fun a => (nm a).map fun p => .tuple [.str p.1, .int p.2]) (hl : ∀ a, P a → (nm a).length ≤ 1000) (E : Env n G σ l) (hl' : ∀ k R, l'.lookup k = some R → l.lookup k = some R ∧ k ≠ i ∧ k ≠ j) (hi : i < n) (hj : j < n) (hij : i ≠ j)
    (ht : ∀ a, P a → ∀ p σ2 G', p ∈ nm a → Same G G' → Env n G' σ2 ((j, D K (.int p.2)) :: (i, D K (.str p.1)) :: l') → Ev te σ2 G' (D K (f p))) : Ev (tLc wi (gTup K 2 (gCons (gName i) (gCons (gName j) gNil))) tYes te [i, j]) σ G (PrE P fun a => D K (.list ((nm a).map f))) := by
  have key : ∀ a, (nm a).map f = ((nm a).map fun p => PyData.tuple [.str p.1, .int p.2]).map fun d => match d with
      | .tuple [.str x, .int t] => f (x, t)
      | _ => .none := fun a => by
    rw [List.map_map]
    try rfl
  refine PrE.imp (ev_lcE (fun _ d => match d with
      | .tuple [.str x, .int t] => f (x, t)
      | _ => .none) hs (fun a pa => by rw [List.length_map]; exact hl a pa) fun a pa k d v G' h1 h2 h3 => ?_) fun a pa => ⟨a, pa, fun v G r => by rw [key a]; exact r⟩
  rw [List.getElem?_map] at h1
  cases q : (nm a)[k]? with
  | none => rw [q] at h1; cases h1
  | some p =>
    rw [q] at h1
    cases h1
    obtain ⟨v1, v2, x1, x2, tg⟩ := tg_tup2 (σ := wipe σ [i, j]) (i := i) (j := j) h3
    exact ⟨_, tg, wipe_set2 hij, ht a pa p _ G' (List.mem_of_getElem? q) h2 ((((E.wipe2 hl').mono h2).set hi x1).set hj x2)⟩
/-- a for over some list that is told only so far -/
theorem w_forNE {α : Type} {P : α → Prop} {ds : α → List PyData} {wi : TI} {j : Nat} {tb : TS} {Dn : Ends} (sm : Same G H) (hs : SrcE K wi σ G P ds)
    (hb : ∀ a, P a → ∀ G1 H1, Gr G H G1 H1 → ∃ Iv : Nat → L2.St → Hp → Hp → Prop, Iv 0 σ G1 H1 ∧ (∀ (k : Nat) d v σ' G' H', (ds a)[k]? = some d → Same G1 G' → Same G' H' → Dp K G' v d → Iv k σ' G' H' →
      tb { Dn with nx := Nx G1 Iv (k + 1), ct := Nx G1 Iv (k + 1), bk := Dn.nx } (σ'.set j (some v)) H') ∧ (∀ σ' G' H', Same G1 G' → Same G' H' → Iv (ds a).length σ' G' H' → Dn.nx σ' H')) : tFor wi (gName j) tb Dn σ H := hs H sm _ fun a pa J G1 H1 xs g1 hx wk =>
  (w_forN (Dn := Dn) (wi := fun _ H R => R J H) (j := j) (tb := tb) g1.gh (src_here (σ := σ) hx wk) fun G2 H2 g2 => hb a pa G2 H2 (g1.trans g2))
theorem et_notT {t : TT} (h : EvT t σ G true) : EvT (tNot t) σ G false := et_not h
theorem et_notF {t : TT} (h : EvT t σ G false) : EvT (tNot t) σ G true := et_not h
theorem et_orFF {t u : TT} (h : EvT t σ G false) (h2 : EvT u σ G false) : EvT (tOr t u) σ G false := et_or h fun _ => h2
theorem q_call3 {i j : Nat} {Dn : Ends} {u : TS} {sp : Sp} {E : XK} {R : Pr} (hE : Ev te σ G R) (sm : Same G H) (k : ∀ v G' H', Gr G H G' H' → R.r v G' → ∃ v2 v3, σ[i]? = some (some v2) ∧ σ[j]? = some (some v3) ∧ sp [v, v2, v3] H' (fun _ H2 => u Dn σ H2) E) :
    tSeq (tDrop (tCall sp [] E (tCons te (tCons (tVar i) (tCons (tVar j) tNil))))) u Dn σ H := hE H sm _ fun v G' H' g r => let ⟨v2, v3, h2, h3, h⟩ := k v G' H' g r; ⟨v2, h2, v3, h3, h⟩
theorem q_disp2 {n : Nat} {l : List (Nat × Pr)} {Dn : Ends} {G0 H0 : Hp} {u : TS} (i : Nat) (k1 k2 : Key) {v1 v2 : V} (E : Env n G σ l) (g : Gr G0 H0 G H) (hi : i < n) (k : ∀ p σ' H', H p = none → Env n G σ' ((i, Rf p) :: l) → Gr G0 H0 G H' → H' = upd H p (.dK (mergeK [] [(k1, v1), (k2, v2)])) → u Dn σ' H') :
    tSeq (tAsg (tDisp [(tC (kV k1), tC v1), (tC (kV k2), tC v2)]) (gName i)) u Dn σ H := fun p hp =>
  by
  refine ⟨upd_same, [(k1, v1), (k2, v2)], rfl, by show 2 ≤ 15; decide, ?_⟩
  have e : ∀ o, upd (upd H p (.dK [])) p o = upd H p o := fun o => upd_upd
  refine k p _ _ hp (E.set hi rfl) ?_ (e _)
  rw [e]
  exact g.trans (Gr.side g.gh hp)
theorem q_disp1 {n : Nat} {l : List (Nat × Pr)} {Dn : Ends} {G0 H0 : Hp} {u : TS} (i : Nat) (k1 : Key) {v1 : V} (E : Env n G σ l) (g : Gr G0 H0 G H) (hi : i < n) (k : ∀ p σ' H', H p = none → Env n G σ' ((i, Rf p) :: l) → Gr G0 H0 G H' → H' = upd H p (.dK (mergeK [] [(k1, v1)])) → u Dn σ' H') :
    tSeq (tAsg (tDisp [(tC (kV k1), tC v1)]) (gName i)) u Dn σ H := fun p hp => by
  refine ⟨upd_same, [(k1, v1)], rfl, by show 1 ≤ 15; decide, ?_⟩
  have e : ∀ o, upd (upd H p (.dK [])) p o = upd H p o := fun o => upd_upd
  refine k p _ _ hp (E.set hi rfl) ?_ (e _)
  rw [e]
  exact g.trans (Gr.side g.gh hp)
end
end OB
set_option Elab.async false
set_option linter.all false
set_option maxRecDepth 100000
set_option maxHeartbeats 1000000
namespace K3
open PySem L2 OB
section
variable {P : Program} {w : World} {K : Fg} {mg : Str → Option Value} {base : Heap}
def adjOf (items : List Item) (x : Int) : List Int := match items[(x - 1).toNat]? with
  | some it => it.2
  | none => []
/-- names and items whose targets all lie in the web -/
structure InWeb (names : List Nm) (items : List Item) : Prop where
  nl : names.length ≤ 1000
  il : items.length ≤ 1000
  nt : ∀ p ∈ names, -1 ≤ p.2 ∧ p.2 ≤ (items.length : Int)
  it : ∀ q ∈ items, q.2.length ≤ 1000 ∧ ∀ t ∈ q.2, -1 ≤ t ∧ t ≤ (items.length : Int)
def first (ms : List Nm) : List Int := meetL [] (ms.map (·.2))
theorem mut2 {p q : Addr} {H' H'' G' : Hp} (kp : ∀ b u, b ≠ p → b ≠ q → H' b = some u → H'' b = some u) (s : Same G' H') (a : G' p = none) (b : G' q = none) : Same G' H'' := fun c u e => kp c u (ne_of_none e a) (ne_of_none e b) (s c u e)
def ordOf (ms : List Nm) (items : List Item) : List Int := run (adjOf items) (first ms) items.length
theorem in_first {names ms : List Nm} {items : List Item} (W : InWeb names items) (S : SrtN names ms) : ∀ x ∈ first ms, 1 ≤ x ∧ x ≤ (items.length : Int) :=
  meetL_all _ _ (by simp) fun t ht h0 => by
    obtain ⟨p, hp, rfl⟩ := List.mem_map.mp ht
    have := W.nt p (S.1.mem_iff.mp hp)
    omega
theorem in_run {names ms : List Nm} {items : List Item} (W : InWeb names items) (S : SrtN names ms) (n : Nat) : ∀ x ∈ run (adjOf items) (first ms) n, 1 ≤ x ∧ x ≤ (items.length : Int) :=
  run_all (in_first W S) (fun x hx t ht h0 => by
    unfold adjOf at ht
    cases q : items[(x - 1).toNat]? with
    | none => rw [q] at ht; cases ht
    | some it =>
      rw [q] at ht
      have := (W.it it (List.mem_of_getElem? q)).2 t ht
      omega) n
theorem nd_run {ms : List Nm} {items : List Item} (n : Nat) : (run (adjOf items) (first ms) n).Nodup := run_nd (meetL_nd _ List.nodup_nil) n
abbrev n_met_points : List Str := ["name_pairs", "item_pairs", "order", "met", "target", "name", "at", "word", "targets"]
abbrev s_met_points : Stmt := top 24
theorem sc_met_points : FnScope n_met_points ["name_pairs", "item_pairs"] (defScope s_met_points) := ⟨rfl, rfl, rfl, by decide +kernel, rfl, by decide +kernel, by decide +kernel⟩
def dNames (l : List Nm) : PyData := .list (l.map OB.dNm)
def dItems (l : List Item) : PyData := .list (l.map dIt)
def sp_met_points (K : Fg) : Sp := spD (α := List Nm × List Item) (fun a => [D K (dNames a.1), D K (dItems a.2)]) (fun a => InWeb a.1 a.2) (fun a => PrE (SrtN a.1) fun ms => D K (dInts (ordOf ms a.2)))
theorem MetAt.init : MetAt (mergeK [] [(.inl 0, .bl true), (.inl (-1), .bl true)]) [] := by
  have e : mergeK [] [((.inl 0 : Key), V.bl true), (.inl (-1), .bl true)] = [(.inl 0, .bl true), (.inl (-1), .bl true)] := by decide +kernel
  rw [e]
  refine ⟨fun t => ?_, by decide⟩
  unfold valV
  by_cases h0 : t = 0
  · subst h0; simp
  · by_cases h1 : t = -1
    · subst h1; simp
    · simp [h0, h1, Ne.symm h0, Ne.symm h1]
theorem ok_met_points (T : Tx mg) (F : Fd K mg "met_points" s_met_points ["name_pairs", "item_pairs"]) (Dmeet : Def P w K mg base "meet" 1 ["targets", "order", "met"] (sp_meet K)) : Def P w K mg base "met_points" 2 ["name_pairs", "item_pairs"] (sp_met_points K) := by
  have nd := sc_met_points.nd
  refine F.okD sc_met_points (fun _ => rfl) (fun f cdv A outer s H E Q a G hr sm pr k => ?_)
  have hu := hu_of hr
  have hu64 : (A.deeper (PyProof.Rows.envOfC "met_points" (defScope s_met_points) s.heap.objs.size f cdv)).units + 64 < cLine := by have := hr.un; omega
  refine ⟨_, (pss_cons (ps_set (i := 2) nd rfl (Or.inl rfl) (pe_lst pa_nil))
      (pss_cons (ps_set (i := 3) nd rfl (Or.inl rfl) (pe_disp (pps_cons (pe_gi (by rfl) T.g_NOTHING) pe_bl (pps_cons (pe_gi (by rfl) T.g_GONE) pe_bl pps_nil)) (by rfl) (by rfl) (fun z => by cases z) (by decide)))
      (pss_cons (ps_expr (pe_def Dmeet hr (by rfl) (pa_cons (pe_lc (own := [("name", 5), ("target", 4)]) (g := (gTup K 2 (gCons (gName 5) (gCons (gName 4) gNil)))) rfl nd (pi_list (pe_callB (cr_sortedN hu64) (by rfl) (T.nb' "sorted") (by decide +kernel) (pa_cons (pv 0) pa_nil))) (blkOk_by (by kernel_rfl)) (fun _ _ _ _ _ => (pg_tup rfl (pgs_cons (pg_name (i := 5) nd rfl (Or.inl rfl)) (pgs_cons (pg_name (i := 4) nd rfl (Or.inl rfl)) pgs_nil)))) (fun _ _ _ _ _ => pts_nil) (fun _ _ _ _ _ => (pv 4))) (pa_cons (pv 2) (pa_cons (pv 3) pa_nil)))))
      (pss_cons (ps_set (i := 6) nd rfl (Or.inl rfl) pe_int)
      (pss_cons (ps_while PassesOwn.never (pt_cmpR op_lt (pv 6) (pe_callB call_len_seq (by rfl) (T.nb' "len") (by decide +kernel) (pa_cons (pv 2) pa_nil)) (nomark _)) (pss_cons (ps_asg (pe_ix ix_list (pv 1) (pe_op op_sub (pe_ix ix_list (pv 2) (pv 6) (fun _ _ => rfl)) pe_int) (fun _ _ => rfl)) (pg_tup rfl (pgs_cons (pg_name (i := 7) nd rfl (Or.inl rfl)) (pgs_cons (pg_name (i := 8) nd rfl (Or.inl rfl)) pgs_nil))))
      (pss_cons (ps_expr (pe_def Dmeet hr (by rfl) (pa_cons (pv 8) (pa_cons (pv 2) (pa_cons (pv 3) pa_nil)))))
      (pss_one (ps_aug (i := 6) nd rfl (Or.inl rfl) pe_int ip_add)))))
      (pss_one (ps_ret (pv 2)))))))), fun σ e => ?_⟩
  obtain ⟨names, items⟩ := a
  have W : InWeb names items := pr
  refine q_newL 2 e (.refl sm) (by decide) fun p σ1 H1 hp e1 g1 hH1 => ?_
  refine q_disp2 3 (.inl 0) (.inl (-1)) e1 g1 (by decide) fun q σ2 H2 hq e2 g2 hH2 => ?_
  have hpq : p ≠ q := fun z => by rw [← z, hH1, upd_same] at hq; cases hq
  have q0 : H q = none := g1.hh.free hq
  have pG : G p = none := sm.free hp
  have qG : G q = none := sm.free q0
  have hp2 : H2 p = some (.lst []) := by rw [hH2, upd_ne hpq, hH1, upd_same]
  have hq2 : H2 q = some (.dK (mergeK [] [(.inl 0, .bl true), (.inl (-1), .bl true)])) := by rw [hH2, upd_same]
  have hm2 : MetAt (mergeK [] [(.inl 0, .bl true), (.inl (-1), .bl true)]) [] := MetAt.init
  generalize mergeK [] [((.inl 0 : Key), V.bl true), (.inl (-1), .bl true)] = kv0 at hq2 hm2
  have ml : names.length ≤ 1000 := W.nl
  refine q_call3 (R := PrE (SrtN names) fun ms => D K (.list (ms.map fun p => .int p.2))) (ev_lcN (l' := []) (fun p => .int p.2) (srcE_list (ev_sortedN (ev_v e2) ml)) (fun ms S => by rw [S.1.length_eq]; exact ml) e2 (fun k R q => by cases q) (by decide) (by decide) (by decide) (fun ms S p σ2 G' _ _ e3 => ev_v e3)) g2.gh fun v G3 H3 g3 r3 => ?_
  obtain ⟨ms, S, r3⟩ := r3
  have r3 : Dp K G3 v (dInts (ms.map (·.2))) := by
    have e : (ms.map fun p => PyData.int p.2) = (ms.map (·.2)).map PyData.int := by rw [List.map_map]; rfl
    rw [dInts, ← e]
    exact r3
  have g4 := g2.trans g3
  obtain ⟨w2, c2, rfl⟩ := e2.get 2 (Rf p) rfl
  obtain ⟨w3, c3, rfl⟩ := e2.get 3 (Rf q) rfl
  have pG3 : G3 p = none := g3.fr p pG (by rw [hp2]; intro z; cases z)
  have qG3 : G3 q = none := g3.fr q qG (by rw [hq2]; intro z; cases z)
  refine ⟨_, _, c2, c3, v, p, q, ms.map (·.2), [], kv0, rfl, ⟨G3, g4.gh, pG3, qG3, .inl r3⟩, g3.hh _ _ hp2, g3.hh _ _ hq2, hm2, fun t ht => ?_, by decide, by rw [List.length_map, S.1.length_eq]; exact ml, fun kv1 H4 hp4 hq4 hm4 kp4 => ?_⟩
  · obtain ⟨y, hy, rfl⟩ := List.mem_map.mp ht
    exact (W.nt y (S.1.mem_iff.mp hy)).1
  have g5 : Gr G H G3 H4 := ⟨g4.gg, mut2 kp4 g4.gh pG3 qG3, mut2 kp4 g4.hh hp q0, g4.fr⟩
  refine q_asg 6 (e2.mono g3.gg) g5 (ev_int (K := K)) (by decide) fun σ6 G6 H6 e6 g6 gg6 => ?_
  refine ⟨fun m σ' H' => ∃ (a : Nat) (G' : Hp) (kv : List (Key × V)), m = items.length - a ∧ a ≤ (run (adjOf items) (first ms) a).length ∧ Gr G H G' H' ∧ G' p = none ∧ G' q = none ∧ H' p = some (.lst ((run (adjOf items) (first ms) a).map V.int)) ∧ H' q = some (.dK kv) ∧ MetAt kv (run (adjOf items) (first ms) a) ∧ Env 9 G' σ' [(6, D K (.int (a : Nat))), (2, Rf p), (3, Rf q), (1, D K (dItems items))], ⟨_, 0, G6, kv1, rfl, Nat.zero_le _, g6, gg6.fr p pG3 (by rw [hp4]; intro z; cases z), gg6.fr q qG3 (by rw [hq4]; intro z; cases z), gg6.hh _ _ hp4, gg6.hh _ _ hq4, hm4, e6.pick (e6.pick (e6.pick (e6.pick e6.nil)))⟩, ?_⟩
  rintro m σ' H' ⟨a, G', kv, rfl, ha, z1, z2, z3, z4, z5, z6, z7⟩
  have rin := in_run W S a
  have rnd := nd_run (ms := ms) (items := items) a
  have rlen := len_le rnd rin
  have e7 := (z7.mono z1.gh)
  have e8 : Env 9 H' σ' [(2, D K (dInts (run (adjOf items) (first ms) a))), (6, D K (.int (a : Nat))), (3, Rf q), (1, D K (dItems items))] := Env.seeL (e7.pick (e7.pick (e7.pick (e7.pick e7.nil)))) z4 (dpa_ints _)
  refine (et_test (ev_lt (ev_v e8) (ev_lenL (ev_v e8)))) H' (Same.refl H') _ fun Gx H8 g8 => ?_
  have g9 := z1.grow g8.hh
  by_cases hlt : a < (run (adjOf items) (first ms) a).length
  · rw [decide_eq_true (by rw [List.length_map]; omega)]
    refine iteT ?_
    have hx : (run (adjOf items) (first ms) a)[a]? = some (run (adjOf items) (first ms) a)[a] := by simp [hlt]
    generalize (run (adjOf items) (first ms) a)[a] = x at hx
    have hxi := rin x (List.mem_of_getElem? hx)
    have hit : items[(x - 1).toNat]? = some (items[(x - 1).toNat]'(by omega)) := by simp [show (x - 1).toNat < items.length by omega]
    generalize items[(x - 1).toNat]'(by omega) = itm at hit
    have hW := W.it itm (List.mem_of_getElem? hit)
    have hstep : run (adjOf items) (first ms) (a + 1) = meetL (run (adjOf items) (first ms) a) itm.2 := by
      show stepAt _ _ _ = _
      unfold stepAt
      rw [hx]
      show meetL _ (adjOf items x) = _
      unfold adjOf
      rw [hit]
    refine ⟨fun σ3 H3 => ∃ (G' : Hp) (kv : List (Key × V)), Gr G H G' H3 ∧ G' p = none ∧ G' q = none ∧ H3 p = some (.lst ((run (adjOf items) (first ms) (a + 1)).map V.int)) ∧ H3 q = some (.dK kv) ∧ MetAt kv (run (adjOf items) (first ms) (a + 1)) ∧ Env 9 G' σ3 [(6, D K (.int ((a + 1 : Nat)))), (2, Rf p), (3, Rf q), (1, D K (dItems items))], fun σ3 H3 h => ?_, ?_⟩
    · obtain ⟨G4, kv4, x1, x2, x3, x4, x5, x6, x7⟩ := h
      have hle : a + 1 ≤ (run (adjOf items) (first ms) (a + 1)).length := Nat.le_trans hlt (run_len_mono (Nat.le_succ a))
      exact ⟨items.length - (a + 1), by omega, a + 1, G4, kv4, rfl, hle, x1, x2, x3, x4, x5, x6, x7⟩
    · have z4' := g8.hh _ _ z4
      have z5' := g8.hh _ _ z5
      obtain ⟨w1, c1, d1⟩ := z7.get 1 _ rfl
      obtain ⟨w2, c2, rfl⟩ := z7.get 2 _ rfl
      obtain ⟨w6, c6, d6⟩ := z7.get 6 _ rfl
      cases dp_int d6
      obtain ⟨ai, xs, rfl, hs, hd⟩ := dp_lst (show Dp K G' w1 (.list (items.map dIt)) from d1)
      obtain ⟨v', hv1, hv2⟩ := dpa_get hd (show (items.map dIt)[(x - 1).toNat]? = some (dIt itm) by rw [List.getElem?_map, hit]; rfl)
      have hix : atI xs (x - 1) = some v' := by
        have e : x - 1 = (((x - 1).toNat : Nat) : Int) := by omega
        rw [e]
        exact atI_nat hv1
      refine ⟨_, c1, _, c2, _, c6, p, _, _, V.int x, rfl, rfl, SqL.of z4', atI_nat (by rw [List.getElem?_map, hx]; rfl), _, _, rfl, rfl, ai, xs, _, v', rfl, rfl, g9.gh.seq hs, hix, ?_⟩
      obtain ⟨v1, v2, x1, x2, tg⟩ := tg_tup2 (σ := σ') (i := 7) (j := 8) hv2
      refine tg H8 g9.gh _ ?_
      have f1 := (z7.set (i := 7) (R := D K (.str itm.1)) (by decide) x1).set (i := 8) (R := D K (tInts itm.2)) (by decide) x2
      refine q_call3 (R := D K (tInts itm.2)) (ev_v f1) g9.gh fun v3 G3 H3 g3 r3 => ?_
      have pG4 : G3 p = none := g3.fr p z2 (by rw [z4']; intro z; cases z)
      have qG4 : G3 q = none := g3.fr q z3 (by rw [z5']; intro z; cases z)
      obtain ⟨y2, k2, rfl⟩ := f1.get 2 (Rf p) rfl
      obtain ⟨y3, k3, rfl⟩ := f1.get 3 (Rf q) rfl
      have ga := g9.trans g3
      refine ⟨_, _, k2, k3, v3, p, q, itm.2, _, kv, rfl, ⟨G3, ga.gh, pG4, qG4, .inr r3⟩, g3.hh _ _ z4', g3.hh _ _ z5', z6, fun t ht => (hW.2 t ht).1, Nat.le_trans rlen W.il, hW.1, fun kv5 H5 hp5 hq5 hm5 kp5 => ?_⟩
      have gb : Gr G H G3 H5 := ⟨ga.gg, mut2 kp5 ga.gh pG4 qG4, mut2 kp5 ga.hh hp q0, ga.fr⟩
      have f2 := f1.mono g3.gg
      obtain ⟨y6, k6, d6'⟩ := f2.get 6 _ rfl
      cases dp_int d6'
      refine ⟨_, k6, _, _, rfl, rfl, ?_⟩
      rw [← hstep] at hp5 hm5
      have f3 := f2.set (i := 6) (R := D K (.int ((a + 1 : Nat)))) (v := .int ((a : Int) + 1)) (by decide) (by
        have e : ((a + 1 : Nat) : Int) = (a : Int) + 1 := by omega
        rw [e]
        exact .int _)
      exact ⟨G3, kv5, gb, pG4, qG4, hp5, hq5, hm5, f3.pick (f3.pick (f3.pick (f3.pick f3.nil)))⟩
  · rw [decide_eq_false (by rw [List.length_map]; omega)]
    refine iteF ?_
    have hae : (run (adjOf items) (first ms) a).length = a := by omega
    have hfin : ordOf ms items = run (adjOf items) (first ms) a := by
      unfold ordOf
      have := run_stop (adj := adjOf items) (o := first ms) (m := a) (Nat.le_of_eq hae) (items.length - a)
      rw [show a + (items.length - a) = items.length by omega] at this
      exact this
    refine w_retL (K := K) z7 g9 rfl hp z2 (g8.hh _ _ z4) (dpa_ints _) fun v G' H' g r => k v G' H' g ⟨ms, S, ?_⟩
    show Dp K G' v (dInts (ordOf ms items))
    rw [hfin]
    exact r
end
end K3
set_option Elab.async false
set_option linter.all false
set_option maxRecDepth 100000
set_option maxHeartbeats 1000000
namespace K3
open PySem L2 OB
section
variable {P : Program} {w : World} {K : Fg} {mg : Str → Option Value} {base : Heap}
/-- new numbers of the points of o -/
def Nums (f : Int → Option Int) (o : List Int) : Prop := f 0 = some 0 ∧ f (-1) = some (-1) ∧ ∀ (k : Nat) (x : Int), o[k]? = some x → f x = some ((k : Int) + 1)
def putI (f : Int → Option Int) (x y : Int) : Int → Option Int := fun t => if t = x then some y else f t
theorem NumD_put (f : Int → Option Int) (x y : Int) : OB.putF (NumD f) (.inl x) (.int y) = NumD (putI f x y) := by
  funext k
  cases k with
  | inl t =>
    show (if (Sum.inl t : Key) = .inl x then some (PyData.int y) else (f t).map PyData.int) = (if t = x then some y else f t).map PyData.int
    by_cases h : t = x
    · rw [if_pos (by rw [h]), if_pos h]
      rfl
    · rw [if_neg (fun z => h (by cases z; rfl)), if_neg h]
  | inr s => rfl
theorem Nums.put {f : Int → Option Int} {o : List Int} {x : Int} {j : Nat} (h : Nums f (o.take j)) (hx : o[j]? = some x) (hn : o.Nodup) (h1 : 1 ≤ x) : Nums (putI f x ((j : Int) + 1)) (o.take (j + 1)) := by
  refine ⟨by show (if (0 : Int) = x then _ else f 0) = _; rw [if_neg (by omega)]; exact h.1, by show (if (-1 : Int) = x then _ else f (-1)) = _; rw [if_neg (by omega)]; exact h.2.1, fun k y hy => ?_⟩
  show (if y = x then some ((j : Int) + 1) else f y) = _
  rw [List.getElem?_take] at hy
  split at hy
  · rename_i hk
    by_cases e : k = j
    · subst e
      rw [hx] at hy
      cases hy
      rw [if_pos rfl]
    · rw [if_neg ?_]
      · exact h.2.2 k y (by rw [List.getElem?_take, if_pos (by omega)]; exact hy)
      · intro z
        subst z
        obtain ⟨q1, q2⟩ := List.getElem?_eq_some_iff.mp hx
        obtain ⟨q3, q4⟩ := List.getElem?_eq_some_iff.mp hy
        exact (List.pairwise_iff_getElem.mp hn) k j q3 q1 (by omega) (by rw [q2, q4])
  · cases hy
abbrev n_new_numbers : List Str := ["order", "numbers", "number", "point"]
abbrev s_new_numbers : Stmt := top 26
theorem sc_new_numbers : FnScope n_new_numbers ["order"] (defScope s_new_numbers) := ⟨rfl, rfl, rfl, by decide +kernel, rfl, by decide +kernel, by decide +kernel⟩
def NumP (K : Fg) (o : List Int) : Pr := PrE (fun a : List Key × (Int → Option Int) => Nums a.2 o) fun a => DicP K a.1 (NumD a.2)
def sp_new_numbers (K : Fg) : Sp := spD (α := List Int) (fun a => [D K (dInts a)]) (fun a => a.length ≤ 1000 ∧ a.Nodup ∧ ∀ x ∈ a, 1 ≤ x) (fun a => NumP K a)
theorem num0 : DicAt K G (mergeK [] [(.inl 0, .int 0), (.inl (-1), .int (-1))]) [.inl 0, .inl (-1)] (NumD (putI (putI (fun _ => none) (-1) (-1)) 0 0)) := by
  have e : mergeK [] [((.inl 0 : Key), V.int 0), (.inl (-1), .int (-1))] = [(.inl 0, .int 0), (.inl (-1), .int (-1))] := by decide +kernel
  rw [e]
  refine ⟨rfl, fun k => ?_⟩
  cases k with
  | inr s => exact trivial
  | inl t =>
    unfold NumD putI valV
    by_cases h0 : t = 0
    · subst h0; exact .int 0
    · by_cases h1 : t = -1
      · subst h1; exact .int (-1)
      · simp only [List.find?_cons, h0, h1]
        have a1 : decide ((Sum.inl 0 : Key) = .inl t) = false := decide_eq_false fun z => h0 (by cases z; rfl)
        have a2 : decide ((Sum.inl (-1) : Key) = .inl t) = false := decide_eq_false fun z => h1 (by cases z; rfl)
        rw [a1, a2]
        exact trivial
theorem addK_len (ks : List Key) (k : Key) : (addK ks k).length ≤ ks.length + 1 := by
  unfold addK
  split
  · omega
  · simp
theorem ok_new_numbers (T : Tx mg) (F : Fd K mg "new_numbers" s_new_numbers ["order"]) : Def P w K mg base "new_numbers" 1 ["order"] (sp_new_numbers K) := by
  have nd := sc_new_numbers.nd
  refine F.okD sc_new_numbers (fun _ => rfl) (fun f cdv A outer s H E Q a G hr sm pr k => ?_)
  have hu := hu_of hr
  refine ⟨_, (pss_cons (ps_set (i := 1) nd rfl (Or.inl rfl) (pe_disp (pps_cons (pe_gi (by rfl) T.g_NOTHING) (pe_gi (by rfl) T.g_NOTHING) (pps_cons (pe_gi (by rfl) T.g_GONE) (pe_gi (by rfl) T.g_GONE) pps_nil)) (by rfl) (by rfl) (fun z => by cases z) (by decide)))
      (pss_cons (ps_for PassesOwn.never rfl (pi_enum1 (by rfl) (T.nb' "enumerate") (pa_cons (pv 0) pa_nil) (pk_cons pe_int pk_nil)) (pg_tup rfl (pgs_cons (pg_name (i := 2) nd rfl (Or.inl rfl)) (pgs_cons (pg_name (i := 3) nd rfl (Or.inl rfl)) pgs_nil)))
      (pss_one (ps_dput hu (pv 1) (pv 3) (pv 2) rfl)))
      (pss_one (ps_ret (pv 1))))), fun σ e => ?_⟩
  obtain ⟨hl, hn, h1⟩ : a.length ≤ 1000 ∧ a.Nodup ∧ ∀ x ∈ a, 1 ≤ x := pr
  refine q_disp2 1 (.inl 0) (.inl (-1)) e (.refl sm) (by decide) fun p σ1 H1 hp e1 g1 hH1 => ?_
  have pG : G p = none := sm.free hp
  have hl1 : (a.map PyData.int).length = a.length := List.length_map _
  refine w_forP g1.gh (srcP_enumL (ev_v e1)) fun G2 H2 g2 => ⟨fun j σ' G' H' => Gr G H G' H' ∧ G' p = none ∧ ∃ kvs ks nf, H' p = some (.dK kvs) ∧ DicAt K G' kvs ks (NumD nf) ∧ ks.length ≤ j + 2 ∧ Nums nf (a.take j) ∧ Env 4 G' σ' [(1, Rf p)], ?_, ?_, ?_⟩
  · exact ⟨g1.trans g2, g2.fr p pG (by rw [hH1, upd_same]; intro z; cases z), _, _, _, g2.hh _ _ (by rw [hH1, upd_same]), num0, by show 2 ≤ 2; decide, ⟨rfl, rfl, by simp⟩, (have e := e1.mono g2.gg; e.pick e.nil)⟩
  · rintro j R S T v1 v2 σ' G' H' hR hS s1 s2 r1 r2 ⟨z1, z2, kvs, ks, nf, z3, z4, z5, z6, z7⟩ hT
    have hjl : j < a.length := by
      obtain ⟨q, _⟩ := List.getElem?_eq_some_iff.mp hS
      simpa using q
    have hx : a[j]? = some a[j] := by simp [hjl]
    generalize a[j] = x at hx
    have eR : R = D K (.int (1 + (j : Nat))) := by
      unfold oneTo at hR
      rw [List.getElem?_map, List.getElem?_range (by rw [hl1]; exact hjl)] at hR
      exact (Option.some.inj hR).symm
    have eS : S = D K (.int x) := by
      rw [List.getElem?_map, List.getElem?_map, hx] at hS
      exact (Option.some.inj hS).symm
    subst eR eS
    refine g_pair ?_
    have e3 := (z7.set (i := 2) (R := D K (.int (1 + (j : Nat)))) (by decide) r1).set (i := 3) (R := D K (.int x)) (by decide) r2
    have s3 : Same G' (upd H' T (.tup [v1, v2])) := s2.trans (same_upd hT)
    have pT : p ≠ T := ne_of_none z3 hT
    refine w_dput (key := .inl x) e3 s3 rfl (by rw [upd_ne pT]; exact z3) (by rw [z4.len]; exact Nat.lt_of_le_of_lt (Nat.le_trans z5 (by omega : j + 2 ≤ 2000)) (by decide)) (ev_v e3) (ev_v e3) fun v G4 H4 g4 r4 => ?_
    have pG4 : G4 p = none := g4.fr p z2 (by rw [upd_ne pT, z3]; intro z; cases z)
    have g5 : Gr G H G4 (upd H4 p (.dK (putK kvs (.inl x) v))) := ((z1.grow (same_upd hT)).trans g4).mut hp pG4
    have hd := (z4.mono g4.gg).put (k := .inl x) r4
    rw [NumD_put, Int.add_comm] at hd
    refine ⟨G4, s1.trans g4.gg, g5.gh, g5, pG4, _, _, _, upd_same, hd, Nat.le_trans (addK_len _ _) (by omega), z6.put hx hn (h1 x (List.mem_of_getElem? hx)), (have e := e3.mono g4.gg; e.pick e.nil)⟩
  · rintro σ' G' H' s1 s2 ⟨z1, z2, kvs, ks, nf, z3, z4, z5, z6, z7⟩
    have hlen : ∀ K', (oneTo K' (a.map PyData.int).length).length = a.length := fun K' => by simp [oneTo]
    rw [hlen, List.take_length] at z6
    exact w_retD z7 z1 rfl hp z2 z3 z4 fun v G' H' g r => k v G' H' g ⟨(ks, nf), z6, r⟩
end
end K3
set_option Elab.async false
set_option linter.all false
set_option maxRecDepth 100000
set_option maxHeartbeats 1000000
namespace K3
open PySem L2 OB
section
variable {P : Program} {w : World} {K : Fg} {mg : Str → Option Value} {base : Heap}
structure NamesOk (names : List Nm) : Prop where
  len : names.length ≤ 6
  wd : ∀ p ∈ names, isWord p.1 1 6 = true ∧ p.1.length ≤ 6
  nd : (names.map (·.1)).Nodup
abbrev n_need_names : List Str := ["name_pairs", "ahead", "name", "target"]
abbrev s_need_names : Stmt := top 20
theorem sc_need_names : FnScope n_need_names ["name_pairs"] (defScope s_need_names) := ⟨rfl, rfl, rfl, by decide +kernel, rfl, by decide +kernel, by decide +kernel⟩
def sp_need_names (K : Fg) : Sp := spD (α := List Nm) (fun a => [D K (dNames a)]) (fun a => NamesOk a) (fun _ => D K .none)
theorem getN {l : List Nm} {j : Nat} {d1 d2 : PyData} (h : (l.map OB.dNm)[j]? = some (.tuple [d1, d2])) : ∃ p, l[j]? = some p ∧ d1 = .str p.1 ∧ d2 = .int p.2 := by
  rw [List.getElem?_map] at h
  cases q : l[j]? with
  | none => rw [q] at h; cases h
  | some p => rw [q] at h; cases h; exact ⟨p, rfl, rfl, rfl⟩
theorem isPair (l : List Nm) : ∀ d, d ∈ l.map OB.dNm → ∃ d1 d2, d = .tuple [d1, d2] := fun d h => by
  obtain ⟨p, _, rfl⟩ := List.mem_map.mp h
  exact ⟨_, _, rfl⟩
theorem ok_need_names (T : Tx mg) (F : Fd K mg "need_names" s_need_names ["name_pairs"]) (Dis_small_word : Def P w K mg base "is_small_word" 1 ["text", "least", "most"] (sp_is_small_word K)) : Def P w K mg base "need_names" 2 ["name_pairs"] (sp_need_names K) := by
  have nd := sc_need_names.nd
  refine F.okD sc_need_names (fun _ => rfl) (fun f cdv A outer s H E Q a G hr sm pr k => ?_)
  have hu := hu_of hr
  refine ⟨_, (pss_cons (ps_set (i := 1) nd rfl (Or.inl rfl) (pe_callTy0 cr_set0K (by rfl) (T.nb' "set") (by decide +kernel)))
      (pss_one (ps_for PassesOwn.never rfl (pi_list (pv 0)) (pg_tup rfl (pgs_cons (pg_name (i := 2) nd rfl (Or.inl rfl)) (pgs_cons (pg_name (i := 3) nd rfl (Or.inl rfl)) pgs_nil)))
      (pss_cons (ps_if (PW.pt (pw_or (pt_cmpR or_sinK (pv 2) (pv 1) (by rfl)) (pw_or1 (pt_not (pt_val (pe_def Dis_small_word hr (by rfl) (pa_cons (pv 2) (pa_cons pe_int (pa_cons pe_int pa_nil))))))))) pss_never pss_nil)
      (pss_one (ps_expr (pe_saddK (pv 1) (pa_cons (pv 2) pa_nil)))))))), fun σ e => ?_⟩
  have N : NamesOk a := pr
  refine ⟨rfl, fun p hp => ?_⟩
  have pG : G p = none := sm.free hp
  have g1 : Gr G H G (upd H p (SetK P w p (fun _ => false) 0)) := Gr.side sm hp
  have e1 := e.set (i := 1) (R := Rf p) (v := .ref p) (by decide) rfl
  refine w_forT g1.gh (src_list (ev_v e1)) (isPair a) fun G2 H2 g2 => ⟨fun j σ' G' H' => Gr G H G' H' ∧ G' p = none ∧ ∃ S n, H' p = some (SetK P w p S n) ∧ n ≤ j ∧ (∀ x : Str, S (.inr x) = true → x ∈ (a.take j).map (·.1)) ∧ Env 4 G' σ' [(1, Rf p)], ?_, ?_, ?_⟩
  · exact ⟨g1.trans g2, g2.fr p pG (by rw [upd_same]; intro z; cases z), _, _, g2.hh _ _ upd_same, Nat.le_refl _, (fun x z => nomatch z), (have e := e1.mono g2.gg; e.pick e.nil)⟩
  · rintro j d1 d2 v1 v2 σ' G' H' hj s1 s2 r1 r2 ⟨z1, z2, S, n, z3, z4, z5, z6⟩
    obtain ⟨y, hy, rfl, rfl⟩ := getN hj
    have hjl : j < a.length := (List.getElem?_eq_some_iff.mp hy).1
    have hw := N.wd y (List.mem_of_getElem? hy)
    have e3 := (z6.set (i := 2) (R := D K (.str y.1)) (by decide) r1).set (i := 3) (R := D K (.int y.2)) (by decide) r2
    have hS : S (.inr y.1) = false := by
      cases q : S (.inr y.1) with
      | false => rfl
      | true =>
        exfalso
        have h1 := z5 y.1 q
        have h2 := N.nd
        rw [← List.take_append_drop j a, List.map_append, List.nodup_append] at h2
        refine h2.2.2 y.1 h1 y.1 ?_ rfl
        refine List.mem_map.mpr ⟨y, ?_, rfl⟩
        have h3 : (a.drop j)[0]? = some y := by rw [List.getElem?_drop]; exact hy
        exact List.mem_of_getElem? h3
    obtain ⟨w1, c1, rfl⟩ := e3.get 1 (Rf p) rfl
    obtain ⟨w2, c2, d2⟩ := e3.get 2 (D K (.str y.1)) rfl
    cases dp_str d2
    have e4 := e3.mono s2
    have t1 : EvT (tTest (tOp (rSInK P w false) (tVar 2) (tVar 1))) ((σ'.set 2 (some v1)).set 3 (some v2)) H' false := fun Hx sx Q q => ⟨_, c2, _, c1, .inr y.1, p, S, n, rfl, rfl, sx _ _ z3, false, by simp [hS], q H' Hx (.refl sx)⟩
    have t2 : Ev (tCall (sp_is_small_word K) [] E0 (tCons (tVar 2) (tCons (tC (.int 1)) (tCons (tC (.int 6)) tNil)))) ((σ'.set 2 (some v1)).set 3 (some v2)) H' (D K (.bool true)) := Ev.is (d := .bool (isWord y.1 1 6)) (ev_call0 (y.1, 1, 6) (ea_cons (ev_v e4) (ea_cons ev_int (ea_cons ev_int ea_nil))) (by show y.1.length ≤ 1000; omega)) (by rw [hw.1])
    refine q_ifF (et_orFF t1 (et_notT (et_B t2))) (fun hb => nomatch hb) fun _ H3 s3 => ?_
    refine ⟨_, c1, ⟨p, S, n, rfl, s3 _ _ z3⟩, _, c2, p, .inr y.1, S, n, rfl, rfl, s3 _ _ z3, Nat.lt_of_le_of_lt (show n + 1 ≤ 1000 by have := N.len; omega) (by decide), ?_⟩
    have g5 : Gr G H G' (upd H3 p (SetK P w p (fun j => S j || decide (j = .inr y.1)) (if S (.inr y.1) = true then n else n + 1))) := (z1.grow s3).mut hp z2
    refine ⟨G', s1, g5.gh, g5, z2, _, _, upd_same, ?_, fun x hx => ?_, e3.pick e3.nil⟩
    · rw [hS]
      show n + 1 ≤ j + 1
      omega
    · rw [take_snoc hy, List.map_append]
      simp only [Bool.or_eq_true, decide_eq_true_eq] at hx
      rcases hx with hx | hx
      · exact List.mem_append_left _ (z5 x hx)
      · cases hx
        exact List.mem_append_right _ (by simp)
  · rintro σ' G' H' s1 s2 ⟨z1, _⟩
    exact k .non G' H' z1 .non
structure ItemsOk (names : List Nm) (items : List Item) : Prop where
  len : items.length ≤ 200
  it : ∀ q ∈ items, itemOk q (items.length : Nat) = true ∧ q.1.length ≤ 8 ∧ q.2.length ≤ 2
  nt : ∀ p ∈ names, isTgt p.2 (items.length : Nat) = true
  nl : names.length ≤ 6
abbrev n_need_targets : List Str := ["name_pairs", "item_pairs", "points", "place", "item", "target", "name"]
abbrev s_need_targets : Stmt := top 21
theorem sc_need_targets : FnScope n_need_targets ["name_pairs", "item_pairs"] (defScope s_need_targets) := ⟨rfl, rfl, rfl, by decide +kernel, rfl, by decide +kernel, by decide +kernel⟩
def sp_need_targets (K : Fg) : Sp := spD (α := List Nm × List Item) (fun a => [D K (dNames a.1), D K (dItems a.2)]) (fun a => ItemsOk a.1 a.2) (fun _ => D K .none)
theorem ok_need_targets (T : Tx mg) (F : Fd K mg "need_targets" s_need_targets ["name_pairs", "item_pairs"]) (Dis_item : Def P w K mg base "is_item" 2 ["item", "points"] (sp_is_item K)) (Dis_target : Def P w K mg base "is_target" 1 ["target", "points"] (sp_is_target K)) : Def P w K mg base "need_targets" 3 ["name_pairs", "item_pairs"] (sp_need_targets K) := by
  have nd := sc_need_targets.nd
  refine F.okD sc_need_targets (fun _ => rfl) (fun f cdv A outer s H E Q a G hr sm pr k => ?_)
  refine ⟨_, (pss_cons (ps_set (i := 2) nd rfl (Or.inr rfl) (pe_callB call_len_seq (by rfl) (T.nb' "len") (by decide +kernel) (pa_cons (pv 1) pa_nil)))
      (pss_cons (ps_for PassesOwn.never rfl (pi_enum (by rfl) (T.nb' "enumerate") (pa_cons (pv 1) pa_nil)) (pg_tup rfl (pgs_cons (pg_name (i := 3) nd rfl (Or.inl rfl)) (pgs_cons (pg_name (i := 4) nd rfl (Or.inl rfl)) pgs_nil)))
      (pss_one (ps_if (pt_not (pt_val (pe_def Dis_item hr (by rfl) (pa_cons (pv 4) (pa_cons (pv 2) pa_nil))))) pss_never pss_nil)))
      (pss_one (ps_if (pt_not (pt_val (pe_callB (cr_all rfl) (by rfl) (T.nb' "all") (by decide +kernel) (pa_cons (pe_lc (own := [("name", 6), ("target", 5)]) (g := (gTup K 2 (gCons (gName 6) (gCons (gName 5) gNil)))) rfl nd (pi_list (pv 0)) (blkOk_by (by kernel_rfl)) (fun _ _ _ _ _ => (pg_tup rfl (pgs_cons (pg_name (i := 6) nd rfl (Or.inl rfl)) (pgs_cons (pg_name (i := 5) nd rfl (Or.inl rfl)) pgs_nil)))) (fun _ _ _ _ _ => pts_nil) (fun _ _ _ _ _ => (pe_def Dis_target hr (by rfl) (pa_cons (pv 5) (pa_cons (pv 2) pa_nil))))) pa_nil)))) pss_never pss_nil)))), fun σ e => ?_⟩
  obtain ⟨names, items⟩ := a
  have W : ItemsOk names items := pr
  refine q_asg 2 e (.refl sm) (ev_lenL (ev_v e)) (by decide) fun σ1 G1 H1 e1 g1 _ => ?_
  have hil : (items.map dIt).length = items.length := List.length_map _
  rw [hil] at e1
  refine w_forP (Dn := { nx := _, rt := Q }) g1.gh (srcP_enum0 (ev_v e1)) fun G2 H2 g2 => ⟨fun j σ' G' H' => Gr G H G' H' ∧ Env 7 G' σ' [(2, D K (.int (items.length : Nat))), (0, D K (dNames names)), (1, D K (dItems items))], ⟨g1.trans g2, (have e := e1.mono g2.gg; e.pick (e.pick (e.pick e.nil)))⟩, ?_, ?_⟩
  · rintro j R S T v1 v2 σ' G' H' hR hS s1 s2 r1 r2 ⟨z1, z2⟩ hT
    have hjl : j < items.length := by
      obtain ⟨q, _⟩ := List.getElem?_eq_some_iff.mp hS
      simpa using q
    have hx : items[j]? = some items[j] := by simp [hjl]
    generalize items[j] = x at hx
    have eR : R = D K (.int (j : Nat)) := by
      rw [List.getElem?_map, hil, rngD_get hjl] at hR
      exact (Option.some.inj hR).symm
    have eS : S = D K (dIt x) := by
      rw [List.getElem?_map, List.getElem?_map, hx] at hS
      exact (Option.some.inj hS).symm
    subst eR eS
    refine g_pair ?_
    have e3 := (z2.set (i := 3) (R := D K (.int (j : Nat))) (by decide) r1).set (i := 4) (R := D K (dIt x)) (by decide) r2
    have hx2 := W.it x (List.mem_of_getElem? hx)
    have g4 := z1.grow (same_upd (o := .tup [v1, v2]) hT)
    refine w_ifN e3 g4 (et_notT (et_B (K := K) (ev_call0 (x, (items.length : Int)) (ea_cons (ev_v e3) (ea_cons (ev_v e3) ea_nil)) ⟨by show x.1.length ≤ 1000; omega, by show x.2.length ≤ 1000; omega, hx2.1⟩))) (fun hb => nomatch hb) fun _ G5 H5 e5 g5 gg5 => ?_
    exact ⟨G5, s1.trans gg5.gg, gg5.gh, g5, e5.pick (e5.pick (e5.pick e5.nil))⟩
  · rintro σ' G' H' s1 s2 ⟨z1, z2⟩
    have hall : EvT (tNot (tB (tCB (rAll K) (tCons (tLc (iList K (tVar 0)) (gTup K 2 (gCons (gName 6) (gCons (gName 5) gNil))) tYes (tCall (sp_is_target K) [] E0 (tCons (tVar 5) (tCons (tVar 2) tNil))) [6, 5]) tNil)))) σ' G' false := by
      refine et_notT (et_B (K := K) (Ev.is (d := .bool ((names.map fun p => isTgt p.2 (items.length : Nat)).all id)) (ev_all ?_) ?_))
      · have hE := ev_lcN (K := K) (α := Unit) (P := fun _ => True) (nm := fun _ => names) (l' := [(2, D K (.int (items.length : Nat)))]) (i := 6) (j := 5) (te := tCall (sp_is_target K) [] E0 (tCons (tVar 5) (tCons (tVar 2) tNil))) (fun p => .bool (isTgt p.2 (items.length : Nat))) (srcE_list (Ev.ex () trivial (ev_v (i := 0) z2))) (fun _ _ => by have := W.nl; omega) z2 (fun k R q => by
          rw [List.lookup_cons] at q
          by_cases hk : k = 2
          · subst hk; simp only [beq_self_eq_true] at q; cases q; exact ⟨rfl, by decide, by decide⟩
          · rw [show (k == 2) = false by simpa using hk] at q; cases q) (by decide) (by decide) (by decide) (fun _ _ p σ2 G3 _ _ e4 => ev_call0 (p.2, (items.length : Int)) (ea_cons (ev_v e4) (ea_cons (ev_v e4) ea_nil)) trivial)
        refine hE.imp fun v G ⟨_, _, r⟩ => ?_
        rw [List.map_map]
        exact r
      · rw [all_map_id, List.all_eq_true.mpr W.nt]
    exact w_ifN z2 z1 hall (fun hb => nomatch hb) fun _ G5 H5 e5 g5 gg5 => k .non G5 H5 g5 .non
end
end K3
set_option Elab.async false
set_option linter.all false
set_option maxRecDepth 100000
set_option maxHeartbeats 1000000
namespace K3
open PySem L2 OB
section
variable {P : Program} {w : World} {K : Fg} {mg : Str → Option Value} {base : Heap} {σ : L2.St} {G H : Hp} {te ta tb : TE}
theorem srcE_of {wi : TI} {ds : List PyData} (h : Src K wi σ G ds) : SrcE K wi σ G (fun _ : Unit => True) (fun _ => ds) := fun H s R k => h H s R fun J G' H' xs g hx wk => k () trivial J G' H' xs g hx wk
/-- a comprehension over pairs of any kind -/
theorem ev_lcB {β : Type} {n i j : Nat} {l l' : List (Nat × Pr)} {wi : TI} (bs : List β) (d1 d2 f : β → PyData) (inj : ∀ b c, d1 b = d1 c → d2 b = d2 c → b = c) (hs : Src K wi σ G (bs.map fun b => .tuple [d1 b, d2 b])) (hl : bs.length ≤ 1000) (E : Env n G σ l) (hl' : ∀ k R, l'.lookup k = some R → l.lookup k = some R ∧ k ≠ i ∧ k ≠ j) (hi : i < n) (hj : j < n) (hij : i ≠ j)
    (ht : ∀ b σ2 G', b ∈ bs → Same G G' → Env n G' σ2 ((j, D K (d2 b)) :: (i, D K (d1 b)) :: l') → Ev te σ2 G' (D K (f b))) : Ev (tLc wi (gTup K 2 (gCons (gName i) (gCons (gName j) gNil))) tYes te [i, j]) σ G (D K (.list (bs.map f))) := by
  classical
  let F : PyData → PyData := fun d => if h : ∃ b, .tuple [d1 b, d2 b] = d then f h.choose else .none
  have hF : ∀ b, F (.tuple [d1 b, d2 b]) = f b := fun b => by
    have h : ∃ c, PyData.tuple [d1 c, d2 c] = .tuple [d1 b, d2 b] := ⟨b, rfl⟩
    show (if h : ∃ c, PyData.tuple [d1 c, d2 c] = .tuple [d1 b, d2 b] then f h.choose else .none) = _
    rw [dif_pos h]
    have q := h.choose_spec
    injection q with q
    injection q with q1 q2
    injection q2 with q2 _
    rw [inj _ _ q1 q2]
  have e : bs.map f = (bs.map fun b => PyData.tuple [d1 b, d2 b]).map F := by
    rw [List.map_map]
    exact List.map_congr_left fun b _ => (hF b).symm
  rw [e]
  refine ev_lc F hs (by rw [List.length_map]; exact hl) fun k d v G' h1 h2 h3 => ?_
  rw [List.getElem?_map] at h1
  cases q : bs[k]? with
  | none => rw [q] at h1; cases h1
  | some b =>
    rw [q] at h1
    cases h1
    obtain ⟨v1, v2, x1, x2, tg⟩ := tg_tup2 (σ := wipe σ [i, j]) (i := i) (j := j) h3
    rw [hF b]
    exact ⟨_, tg, wipe_set2 hij, ht b _ G' (List.mem_of_getElem? q) h2 ((((E.wipe2 hl').mono h2).set hi x1).set hj x2)⟩
theorem tInts_inj {a b : List Int} (h : tInts a = tInts b) : a = b := by
  unfold tInts at h
  injection h with h
  have : ∀ (a b : List Int), a.map PyData.int = b.map PyData.int → a = b := by
    intro a
    induction a with
    | nil => intro b h; cases b with
      | nil => rfl
      | cons _ _ => cases h
    | cons x xs ih => intro b h; cases b with
      | nil => cases h
      | cons y ys =>
        injection h with h1 h2
        injection h1 with h1
        rw [h1, ih ys h2]
  exact this a b h
/-- names sorted in one way -/
theorem srt_one {names ms ms' : List Nm} (hn : (names.map (·.1)).Nodup) (h : SrtN names ms) (h' : SrtN names ms') : ms = ms' := by
  have inj : ∀ p ∈ names, ∀ q ∈ names, p.1 = q.1 → p = q := by
    intro p hp q hq e
    obtain ⟨i, hi, rfl⟩ := List.mem_iff_getElem.mp hp
    obtain ⟨j, hj, rfl⟩ := List.mem_iff_getElem.mp hq
    have := List.pairwise_iff_getElem.mp hn
    rcases Nat.lt_trichotomy i j with z | z | z
    · exact absurd (by rw [List.getElem_map, List.getElem_map]; exact e) (this i j (by simpa using hi) (by simpa using hj) z)
    · subst z; rfl
    · exact absurd (by rw [List.getElem_map, List.getElem_map]; exact e.symm) (this j i (by simpa using hj) (by simpa using hi) z)
  refine List.Perm.eq_of_pairwise (le := fun p q : Nm => p.1.cps.toList ≤ q.1.cps.toList) (fun a b ha hb h1 h2 => ?_) h.2 h'.2 (h.1.trans h'.1.symm)
  refine inj a (h.1.mem_iff.mp ha) b (h'.1.mem_iff.mp hb) ?_
  have := List.le_antisymm h1 h2
  cases ea : a.1
  cases eb : b.1
  rw [ea, eb] at this
  simpa using this
theorem all_in {o : List Int} {n : Nat} (h : o.Nodup) (ha : ∀ x ∈ o, 1 ≤ x ∧ x ≤ (n : Int)) (hl : o.length = n) {t : Int} (h1 : 1 ≤ t) (h2 : t ≤ n) : t ∈ o := by
  by_cases q : t ∈ o
  · exact q
  · exfalso
    have := len_le (o := t :: o) (n := n) (List.nodup_cons.mpr ⟨q, h⟩) fun x hx => by
      rcases List.mem_cons.mp hx with rfl | hx
      · exact ⟨h1, h2⟩
      · exact ha x hx
    rw [List.length_cons] at this
    omega
/-- a web that is right -/
structure WebOk (names : List Nm) (items : List Item) : Prop where
  nm : NamesOk names
  it : ItemsOk names items
  full : ∀ ms, SrtN names ms → (ordOf ms items).length = items.length
theorem isTgt_iff {t n : Int} : isTgt t n = true ↔ -1 ≤ t ∧ t ≤ n := by
  unfold isTgt
  simp
theorem WebOk.inWeb {names : List Nm} {items : List Item} (W : WebOk names items) : InWeb names items :=
  ⟨by have := W.nm.len; omega, by have := W.it.len; omega, fun p hp => isTgt_iff.mp (W.it.nt p hp), fun q hq => by
    obtain ⟨h1, h2, h3⟩ := W.it.it q hq
    refine ⟨by omega, fun t ht => ?_⟩
    unfold itemOk at h1
    simp only [Bool.and_eq_true, List.all_eq_true] at h1
    exact isTgt_iff.mp (h1.2 t ht)⟩
def itOf (items : List Item) (x : Int) : Item := items.getD (x - 1).toNat ("", [])
/-- what a web of these is -/
structure Made (names : List Nm) (items : List Item) (r : List Nm × List Item) : Prop where
  ex : ∃ ms f, SrtN names ms ∧ Nums f (ordOf ms items) ∧ r.1 = ms.map (fun p => (p.1, (f p.2).getD 0)) ∧ r.2 = (ordOf ms items).map fun x => ((itOf items x).1, (itOf items x).2.map fun t => (f t).getD 0)
def WebP (K : Fg) (C : Addr) (r : List Nm × List Item) : Pr := ⟨fun v G => ∃ a dx fs v1 v2, v = .ref a ∧ G a = some (.ins C dx fs) ∧ fs.length ≤ 2 ∧ fs.lookup ("name_pairs" : Str) = some v1 ∧ fs.lookup ("item_pairs" : Str) = some v2 ∧ (∀ m : Str, m ≠ "name_pairs" → m ≠ "item_pairs" → fs.lookup m = none) ∧ Dp K G v1 (.tuple (r.1.map OB.dNm)) ∧ Dp K G v2 (.tuple (r.2.map dIt)),
  fun _ _ _ e ⟨a, dx, fs, v1, v2, h1, h2, h3, h4, h5, h6, h7, h8⟩ => ⟨a, dx, fs, v1, v2, h1, e _ _ h2, h3, h4, h5, h6, dp_mono e _ _ h7, dp_mono e _ _ h8⟩⟩
end
end K3
set_option Elab.async false
set_option linter.all false
set_option maxRecDepth 100000
set_option maxHeartbeats 400000
namespace OB
open PySem L2
section
variable {X : Cx}
def rTupOf (K : Fg) : List V → Hp → VK → Prop := fun xs H Q => ∃ p ys, xs = [.ref p] ∧ ((SqL K H p ys ∧ ∀ l, H l = none → Q (.ref l) (upd H l (.tup ys))) ∨ (SqT K H p ys ∧ Q (.ref p) H))
theorem kTupOf (K : Fg) (h : X.K = K := by rfl) : CallR X (.type "tuple") (rTupOf K) := by subst h; exact call_tuple_of
theorem kIxL (K : Fg) (h : X.K = K := by rfl) : IxR X (rIxL K) := by subst h; exact ix_list
theorem kIxT (K : Fg) (h : X.K = K := by rfl) : IxR X (rIxT K) := by subst h; exact ix_tup
theorem kNotIn (K : Fg) (h : X.K = K := by rfl) : OpR X (compareOp .NotIn) (rIn K true) := by subst h; exact op_notIn_seq
theorem kpTup (K : Fg) {tg l : Expr} {tl : TE} (hl : PE X l tl) (h : X.K = K := by rfl) : PI X tg l (iTup K tl) := by subst h; exact pi_tup hl
theorem kpList (K : Fg) {tg l : Expr} {tl : TE} (hl : PE X l tl) (h : X.K = K := by rfl) : PI X tg l (iList K tl) := by subst h; exact pi_list hl
def rLenS (K : Fg) : List V → Hp → VK → Prop := fun xs H Q => ∃ p ys, xs = [.ref p] ∧ (SqL K H p ys ∨ SqT K H p ys) ∧ Q (.int ys.length) H
theorem kLen (K : Fg) (h : X.K = K := by rfl) : CallR X (.builtin "len") (rLenS K) := by subst h; exact call_len_seq
end
section
variable {K : Fg} {σ : L2.St} {G : Hp} {te : TE} {ds : List PyData}
def Vl (v : V) : Pr := ⟨fun u _ => u = v, fun _ _ _ _ h => h⟩
theorem w_fld {H : Hp} {n i : Nat} {l : List (Nat × Pr)} {Dn : Ends} {tv : TE} {R : Pr} {a C dx : Addr} {fs : List (Str × V)} {f : Str} (E : Env n G σ l) (hi : l.lookup i = some (Rf a)) (sm : Same G H) (hv : Ev tv σ G R) (ha : H a = some (.ins C dx fs)) (cl : Cls K C) (na : NoAttr K C f) (hl : fs.length < 1000)
    (k : ∀ v G' H', Gr G H G' H' → R.r v G' → Dn.nx σ (upd H' a (.ins C dx (L2.putF f v fs)))) : sFld K (tVar i) tv f Dn σ H := by
  refine hv H sm _ fun v G' H' g r => ?_
  obtain ⟨w, h1, h2⟩ := E.get i _ hi
  cases (show w = .ref a from h2)
  exact ⟨_, h1, a, C, dx, fs, rfl, g.hh _ _ ha, cl, na, hl, k v G' H' g r⟩
theorem q_fld {H : Hp} {n i : Nat} {l : List (Nat × Pr)} {Dn : Ends} {u : TS} {tv : TE} {R : Pr} {a C dx : Addr} {fs : List (Str × V)} {f : Str} (E : Env n G σ l) (hi : l.lookup i = some (Rf a)) (sm : Same G H) (hv : Ev tv σ G R) (ha : H a = some (.ins C dx fs)) (cl : Cls K C) (na : NoAttr K C f) (hl : fs.length < 1000)
    (k : ∀ v G' H', Gr G H G' H' → R.r v G' → u Dn σ (upd H' a (.ins C dx (L2.putF f v fs)))) : tSeq (sFld K (tVar i) tv f) u Dn σ H := w_fld E hi sm hv ha cl na hl k
theorem ev_tupLK (h : Ev te σ G (D K (.list ds))) : Ev (tCB (rTupOf K) (tCons te tNil)) σ G (D K (.tuple ds)) := ev_tupL h
theorem ev_tupTK (h : Ev te σ G (D K (.tuple ds))) : Ev (tCB (rTupOf K) (tCons te tNil)) σ G (D K (.tuple ds)) := ev_tupT h
end
end OB
set_option Elab.async false
set_option linter.all false
set_option maxRecDepth 100000
set_option maxHeartbeats 1000000
namespace K3
open PySem L2 OB
section
variable {P : Program} {w : World} {K : Fg} {mg : Str → Option Value} {base : Heap}
abbrev n_init : List Str := ["self", "names", "items", "name_pairs", "target", "name", "item_pairs", "word", "targets", "order", "numbers", "point"]
abbrev s_init : Stmt := inClass (top 19) 0
theorem sc_init : FnScope n_init ["self", "names", "items"] (defScope s_init) := ⟨rfl, rfl, rfl, by decide +kernel, rfl, by decide +kernel, by decide +kernel⟩
structure CTx (K : Fg) (C : Addr) : Prop where
  cl : Cls K C
  nN : NoAttr K C "name_pairs"
  nI : NoAttr K C "item_pairs"
def sp_init (K : Fg) (C : Addr) : Sp := fun vs H Q _ => ∃ (x dx : Addr) (v1 v2 : V) (names : List Nm) (items : List Item) (G : Hp), vs = [.ref x, v1, v2] ∧ H x = some (.ins C dx []) ∧ Same G H ∧ G x = none ∧
  (Dp K G v1 (dNames names) ∨ Dp K G v1 (.tuple (names.map OB.dNm))) ∧ (Dp K G v2 (dItems items) ∨ Dp K G v2 (.tuple (items.map dIt))) ∧ WebOk names items ∧
  ∀ H' G' r u1 u2, Made names items r → Same G G' → Same G' H' → G' x = none → (∀ b o, b ≠ x → H b = some o → H' b = some o) → (∀ p, G p = none → H p ≠ none → G' p = none) →
    H' x = some (.ins C dx (L2.putF "item_pairs" u2 (L2.putF "name_pairs" u1 []))) → Dp K G' u1 (.tuple (r.1.map OB.dNm)) → Dp K G' u2 (.tuple (r.2.map dIt)) → Q .non H'
theorem funD_ok {x qual : Str} {st : Stmt} {dvs : List V} {kws : List (Str × V)} {f : Addr} {fd : FuncData} {N ps : List Str} {k : Nat} {sp : Sp} (F : FunD K x qual (defArgs st) (defBody st) (defScope st) dvs kws f fd) (S : FnScope N ps (defScope st)) (len : ∀ vs H Q E, sp vs H Q E → vs.length = ps.length)
    (hbody : ∀ (cdv : Value) (A : Around) (outer : List PySem.Env) (s : Shared) (H : Hp) (vs : List V) (Q : VK) (E : XK), Room k (A.deeper (PyProof.Rows.envOfC qual (defScope st) s.heap.objs.size f cdv)) → sp vs H Q E →
      ∃ t, PSs (cxOf CX0 P w K mg base N qual (defScope st) f cdv A outer s H E).nox (defBody st) t ∧ t { nx := fun _ H' => Q .non H', rt := Q } (L2.start N vs) H) : FnOk P w K mg base CX0 (k + 1) f fd ps sp :=
  F.ok S len fun cdv A outer s H vs Q E hr hsp => let ⟨t, h, q⟩ := hbody cdv A outer s H vs Q E hr hsp; ⟨t, h.nox, q⟩
theorem ok_init {f C : Addr} {fd : FuncData} {dvs : List V} (F : FunD K "__init__" "Web.__init__" (defArgs s_init) (defBody s_init) (defScope s_init) dvs [] f fd) (T : Tx mg) (TC : CTx K C)
    (Dneed_names : Def P w K mg base "need_names" 2 ["name_pairs"] (sp_need_names K)) (Dneed_targets : Def P w K mg base "need_targets" 3 ["name_pairs", "item_pairs"] (sp_need_targets K)) (Dmet_points : Def P w K mg base "met_points" 2 ["name_pairs", "item_pairs"] (sp_met_points K))
    (Dnew_numbers : Def P w K mg base "new_numbers" 1 ["order"] (sp_new_numbers K)) (Drenumbered : Def P w K mg base "renumbered" 1 ["item", "numbers"] (sp_renumbered K)) : FnOk P w K mg base CX0 4 f fd ["self", "names", "items"] (sp_init K C) := by
  have nd := sc_init.nd
  refine funD_ok F sc_init (fun vs H Q E h => ?_) (fun cdv A outer s H vs Q E hr h => ?_)
  · obtain ⟨x, dx, v1, v2, names, items, G, rfl, _⟩ := h
    rfl
  have hu := hu_of hr
  have hu64 : (A.deeper (PyProof.Rows.envOfC "Web.__init__" (defScope s_init) s.heap.objs.size f cdv)).units + 64 < cLine := by have := hr.un; omega
  obtain ⟨x, dx, v1, v2, names, items, G, rfl, hx, sm, gx, h1, h2, W, k⟩ := h
  refine ⟨_, (pss_cons (ps_setLc (i := 3) (own := [("name", 5), ("target", 4)]) (g := (gTup K 2 (gCons (gName 5) (gCons (gName 4) gNil)))) rfl nd rfl rfl (sw_true rfl rfl rfl (by decide +kernel)) (pi_or (pi_list (pv 1)) (pi_tup (pv 1))) (blkOk_by (by kernel_rfl)) (fun _ _ _ _ _ => (pg_tup rfl (pgs_cons (pg_name (i := 5) nd rfl (Or.inl rfl)) (pgs_cons (pg_name (i := 4) nd rfl (Or.inl rfl)) pgs_nil)))) (fun _ _ _ _ _ => pts_nil) (fun _ _ _ _ _ => (pe_tup (pa_cons (pv 5) (pa_cons (pv 4) pa_nil)))))
      (pss_cons (ps_set (i := 6) nd rfl (Or.inr rfl) (pe_lc (own := [("word", 7), ("targets", 8)]) (g := (gTup K 2 (gCons (gName 7) (gCons (gName 8) gNil)))) rfl nd (pi_or (pi_list (pv 2)) (pi_tup (pv 2))) (blkOk_by (by kernel_rfl)) (fun _ _ _ _ _ => (pg_tup rfl (pgs_cons (pg_name (i := 7) nd rfl (Or.inl rfl)) (pgs_cons (pg_name (i := 8) nd rfl (Or.inl rfl)) pgs_nil)))) (fun _ _ _ _ _ => pts_nil) (fun _ _ _ _ _ => (pe_tup (pa_cons (pv 7) (pa_cons (pe_callTy (kTupOf K) (by rfl) (T.nb' "tuple") (by decide +kernel) (pa_cons (pv 8) pa_nil)) pa_nil))))))
      (pss_cons (ps_expr (pe_def Dneed_names hr (by rfl) (pa_cons (pv 3) pa_nil)))
      (pss_cons (ps_expr (pe_def Dneed_targets hr (by rfl) (pa_cons (pv 3) (pa_cons (pv 6) pa_nil))))
      (pss_cons (ps_set (i := 9) nd rfl (Or.inl rfl) (pe_def Dmet_points hr (by rfl) (pa_cons (pv 3) (pa_cons (pv 6) pa_nil))))
      (pss_cons (ps_if (PW.pt (pw_or (pt_cmpR op_lt (pe_callB call_len_seq (by rfl) (T.nb' "len") (by decide +kernel) (pa_cons (pv 9) pa_nil)) (pe_callB call_len_seq (by rfl) (T.nb' "len") (by decide +kernel) (pa_cons (pv 6) pa_nil)) (nomark _)) (pw_or (pt_cmpR op_gt (pe_callB call_len_seq (by rfl) (T.nb' "len") (by decide +kernel) (pa_cons (pv 3) pa_nil)) (pe_gi (by rfl) T.g_MOST_NAMES) (nomark _)) (pw_or1 (pt_cmpR op_gt (pe_callB call_len_seq (by rfl) (T.nb' "len") (by decide +kernel) (pa_cons (pv 6) pa_nil)) (pe_gi (by rfl) T.g_MOST_POINTS) (nomark _)))))) pss_never pss_nil)
      (pss_cons (ps_set (i := 10) nd rfl (Or.inr rfl) (pe_def Dnew_numbers hr (by rfl) (pa_cons (pv 9) pa_nil)))
      (pss_cons (ps_fld (pv 0) (pe_callTy call_tuple_of (by rfl) (T.nb' "tuple") (by decide +kernel) (pa_cons (pe_lc (own := [("name", 5), ("target", 4)]) (g := (gTup K 2 (gCons (gName 5) (gCons (gName 4) gNil)))) rfl nd (pi_list (pe_callB (cr_sortedN hu64) (by rfl) (T.nb' "sorted") (by decide +kernel) (pa_cons (pv 3) pa_nil))) (blkOk_by (by kernel_rfl)) (fun _ _ _ _ _ => (pg_tup rfl (pgs_cons (pg_name (i := 5) nd rfl (Or.inl rfl)) (pgs_cons (pg_name (i := 4) nd rfl (Or.inl rfl)) pgs_nil)))) (fun _ _ _ _ _ => pts_nil) (fun _ _ _ _ _ => (pe_tup (pa_cons (pv 5) (pa_cons (pe_dget hu (pv 10) (pv 4) (fun _ _ => rfl)) pa_nil))))) pa_nil)) rfl)
      (pss_one (ps_fld (pv 0) (pe_callTy call_tuple_of (by rfl) (T.nb' "tuple") (by decide +kernel) (pa_cons (pe_lc (own := [("point", 11)]) (g := (gName 11)) rfl nd (pi_list (pv 9)) (blkOk_by (by kernel_rfl)) (fun _ _ _ _ _ => (pg_name (i := 11) nd rfl (Or.inl rfl))) (fun _ _ _ _ _ => pts_nil) (fun _ _ _ _ _ => (pe_def Drenumbered hr (by rfl) (pa_cons (pe_ix (kIxL K) (pv 6) (pe_op op_sub (pv 11) pe_int) (fun _ _ => rfl)) (pa_cons (pv 10) pa_nil))))) pa_nil)) rfl)))))))))), ?_⟩
  have IW := W.inWeb
  have e0 : Env 12 G (L2.start n_init [.ref x, v1, v2]) [(0, Rf x), (2, Vl v2)] := ⟨rfl, fun i R q => by
    rw [List.lookup_cons] at q
    by_cases hi : i = 0
    · subst hi; simp only [beq_self_eq_true] at q; cases q; exact ⟨_, rfl, rfl⟩
    · rw [show (i == 0) = false by simpa using hi, List.lookup_cons] at q
      by_cases h2 : i = 2
      · subst h2; simp only [beq_self_eq_true] at q; cases q; exact ⟨_, rfl, rfl⟩
      · rw [show (i == 2) = false by simpa using h2] at q; cases q⟩
  have src1 : Src K (fun σ H R => iList K (tVar 1) σ H R ∨ iTup K (tVar 1) σ H R) (L2.start n_init [.ref x, v1, v2]) G (names.map OB.dNm) := by
    rcases h1 with h | h
    · exact src_orL (src_list (fun H s Q q => ⟨v1, rfl, q v1 G H (.refl s) h⟩))
    · exact src_orR (src_tup (fun H s Q q => ⟨v1, rfl, q v1 G H (.refl s) h⟩))
  have nl : names.length ≤ 1000 := IW.nl
  have il : items.length ≤ 1000 := IW.il
  refine q_asg 3 e0 (.refl sm) (ev_lcB (l' := []) names (fun p => .str p.1) (fun p => .int p.2) OB.dNm (fun b c q1 q2 => by
      injection q1 with q1; injection q2 with q2; exact Prod.ext q1 q2) src1 nl e0 (fun k R q => by cases q) (by decide) (by decide) (by decide) fun b σ2 G' _ _ e => ev_tup [.str b.1, .int b.2] (ea_cons (ev_v e) (ea_cons (ev_v e) ea_nil)) (by show 2 ≤ sizeLine; decide)) (by decide) fun σ1 G1 H1 e1 g1 _ => ?_
  obtain ⟨w2, c2, rfl⟩ := e1.get 2 (Vl v2) rfl
  have src2 : Src K (fun σ H R => iList K (tVar 2) σ H R ∨ iTup K (tVar 2) σ H R) σ1 G1 (items.map dIt) := by
    rcases h2 with h | h
    · exact src_orL (src_list (fun H s Q q => ⟨_, c2, q _ G1 H (.refl s) (dp_mono g1.gg _ _ h)⟩))
    · exact src_orR (src_tup (fun H s Q q => ⟨_, c2, q _ G1 H (.refl s) (dp_mono g1.gg _ _ h)⟩))
  refine q_asg 6 e1 g1 (ev_lcB (l' := []) items (fun p => .str p.1) (fun p => tInts p.2) dIt (fun b c q1 q2 => by
      injection q1 with q1; exact Prod.ext q1 (tInts_inj q2)) src2 il e1 (fun k R q => by cases q) (by decide) (by decide) (by decide) fun b σ2 G' _ _ e => ev_tup [.str b.1, tInts b.2] (ea_cons (ev_v e) (ea_cons (ev_tupTK (ev_v e)) ea_nil)) (by show 2 ≤ sizeLine; decide)) (by decide) fun σ2 G2 H2 e2 g2 _ => ?_
  refine q_drop g2 (ev_call0 names (ea_cons (ev_v e2) ea_nil) W.nm) fun G3 H3 g3 gg3 => ?_
  have e3 := e2.mono gg3.gg
  refine q_drop g3 (ev_call0 (names, items) (ea_cons (ev_v e3) (ea_cons (ev_v e3) ea_nil)) W.it) fun G4 H4 g4 gg4 => ?_
  have e4 := e3.mono gg4.gg
  refine q_asg 9 e4 g4 (ev_call0 (names, items) (ea_cons (ev_v e4) (ea_cons (ev_v e4) ea_nil)) IW) (by decide) fun σ5 G5 H5 e5 g5 _ => ?_
  obtain ⟨ms, S, e5⟩ := Env.open e5
  have hfull := W.full ms S
  have c1 : EvT (tTest (tOp (rI0 fun i j => .bl (decide (i < j))) (tCB (rLenS K) (tCons (tVar 9) tNil)) (tCB (rLenS K) (tCons (tVar 6) tNil)))) σ5 G5 false := (et_test (ev_lt (ev_lenL (ev_v e5)) (ev_lenL (ev_v e5)))).is (decide_eq_false (by rw [List.length_map, List.length_map, hfull]; omega))
  have c3 : EvT (tTest (tOp (rI0 fun i j => .bl (decide (j < i))) (tCB (rLenS K) (tCons (tVar 3) tNil)) (tC (.int 6)))) σ5 G5 false := (et_test (ev_gt (ev_lenL (ev_v e5)) ev_int)).is (decide_eq_false (by rw [List.length_map]; have := W.nm.len; omega))
  have c4 : EvT (tTest (tOp (rI0 fun i j => .bl (decide (j < i))) (tCB (rLenS K) (tCons (tVar 6) tNil)) (tC (.int 200)))) σ5 G5 false := (et_test (ev_gt (ev_lenL (ev_v e5)) ev_int)).is (decide_eq_false (by rw [List.length_map]; have := W.it.len; omega))
  refine q_if e5 g5 (et_orFF c1 (et_orFF c3 c4)) (fun hb => nomatch hb) fun _ G6 H6 e6 g6 _ => ?_
  have oin := in_run IW S items.length
  have ond := nd_run (ms := ms) (items := items) items.length
  have olen : (ordOf ms items).length ≤ 1000 := by rw [hfull]; exact il
  refine q_asg 10 e6 g6 (ev_call0 (ordOf ms items) (ea_cons (ev_v e6) ea_nil) ⟨olen, ond, fun y hy => (oin y hy).1⟩) (by decide) fun σ7 G7 H7 e7 g7 _ => ?_
  obtain ⟨⟨ks, nf⟩, hN, e7⟩ := Env.open e7
  have hN : Nums nf (ordOf ms items) := hN
  have hnf : ∀ t : Int, -1 ≤ t → t ≤ (items.length : Int) → nf t = some ((nf t).getD 0) := fun t t1 t2 => by
    by_cases h0 : t = 0
    · rw [h0, hN.1]; rfl
    · by_cases h1 : t = -1
      · rw [h1, hN.2.1]; rfl
      · have hm := all_in ond oin hfull (show 1 ≤ t by omega) t2
        obtain ⟨kk, hk, rfl⟩ := List.mem_iff_getElem.mp hm
        rw [hN.2.2 kk _ (by simp [ordOf, hk])]
        rfl
  have gx7 : G7 x = none := g7.fr x gx (by rw [hx]; intro z; cases z)
  have hx7 := g7.hh _ _ hx
  have hE8 : Ev (tLc (iList K (tCB (rSortedN K) (tCons (tVar 3) tNil))) (gTup K 2 (gCons (gName 5) (gCons (gName 4) gNil))) tYes (tTup (tCons (tVar 5) (tCons (tDGet (tVar 10) (tVar 4)) tNil))) [5, 4]) σ7 G7 (D K (.list ((ms.map (fun p => (p.1, (nf p.2).getD 0))).map OB.dNm))) := by
    have hE := ev_lcN (K := K) (P := SrtN names) (nm := fun ms => ms) (l' := [(10, DicP K ks (NumD nf))]) (i := 5) (j := 4) (te := tTup (tCons (tVar 5) (tCons (tDGet (tVar 10) (tVar 4)) tNil))) (fun p => .tuple [.str p.1, .int ((nf p.2).getD 0)]) (srcE_list (ev_sortedN (ev_v (i := 3) e7) nl)) (fun ms' S' => by rw [S'.1.length_eq]; exact nl) e7 (fun k R q => by
        rw [List.lookup_cons] at q
        by_cases hk : k = 10
        · subst hk; simp only [beq_self_eq_true] at q; cases q; exact ⟨rfl, by decide, by decide⟩
        · rw [show (k == 10) = false by simpa using hk] at q; cases q) (by decide) (by decide) (by decide) (fun ms' S' p σ8 G8 hp _ e8 => ev_tup [.str p.1, .int ((nf p.2).getD 0)] (ea_cons (ev_v e8) (ea_cons (ev_dget (k := .inl p.2) (ev_v e8) (ev_v e8) (by
          have := IW.nt p (S'.1.mem_iff.mp hp)
          show (nf p.2).map PyData.int = _
          rw [hnf p.2 this.1 this.2]
          rfl)) ea_nil)) (by show 2 ≤ sizeLine; decide))
    refine hE.imp fun v G ⟨ms', S', r⟩ => ?_
    rw [srt_one W.nm.nd S' S] at r
    rw [List.map_map]
    exact r
  refine q_fld e7 rfl g7.gh (ev_tupL hE8) hx7 TC.cl TC.nN (by decide) fun u1 G8 H8 g8 r8 => ?_
  have gx8 : G8 x = none := g8.fr x gx7 (by rw [hx7]; intro z; cases z)
  have e8 := e7.mono g8.gg
  have s8 : Same G8 (upd H8 x (.ins C dx (L2.putF "name_pairs" u1 []))) := same_mut g8.gh gx8
  have hitl : ∀ o ∈ ordOf ms items, items[(o - 1).toNat]? = some (itOf items o) := fun o ho => by
    have := oin o ho
    unfold itOf
    rw [List.getD_eq_getElem?_getD]
    have hlt : (o - 1).toNat < items.length := by omega
    rw [List.getElem?_eq_getElem hlt]
    rfl
  refine w_fld e8 rfl s8 (ev_tupL (ds := ((ordOf ms items).map fun o => ((itOf items o).1, (itOf items o).2.map fun t => (nf t).getD 0)).map dIt) ?_) upd_same TC.cl TC.nI (by show 1 < 1000; decide) fun u2 G9 H9 g9 r9 => ?_
  · rw [List.map_map]
    refine ev_lcI (fun o => dIt ((itOf items o).1, (itOf items o).2.map fun t => (nf t).getD 0)) (src_list (ev_v e8)) olen e8 [(6, D K (dItems items)), (10, DicP K ks (NumD nf))] (lkc (by decide) rfl (lkc (by decide) rfl lk0)) (by decide) fun o σ9 G9 ho _ e9 => ?_
    have ho1 := oin o ho
    have hi9 := hitl o ho
    have hW := IW.it _ (List.mem_of_getElem? hi9)
    refine ev_call0 (itOf items o, ks, nf, fun t => (nf t).getD 0) (ea_cons (ev_ixL (ev_v e9) (ev_sub (ev_v e9) ev_int) ?_) (ea_cons (ev_v e9) ea_nil)) ⟨hW.1, fun t ht => hnf t (hW.2 t ht).1 (hW.2 t ht).2⟩
    have e : o - 1 = (((o - 1).toNat : Nat) : Int) := by omega
    rw [e]
    exact atI_nat (by rw [List.getElem?_map, hi9]; rfl)
  · have gx9 : G9 x = none := g9.fr x gx8 (by rw [upd_same]; intro z; cases z)
    refine k _ G9 (_, _) u1 u2 ⟨ms, nf, S, hN, rfl, rfl⟩ (g7.gg.trans (g8.gg.trans g9.gg)) (same_mut g9.gh gx9) gx9 (fun b o hb e => ?_) (fun p h1 h2 => ?_) ?_ (dp_mono g9.gg _ _ r8) r9
    · rw [upd_ne hb]
      exact g9.hh _ _ (by rw [upd_ne hb]; exact g8.hh _ _ (g7.hh _ _ e))
    · have q7 := g7.fr p h1 h2
      have hp7 : H7 p ≠ none := fun z => h2 (g7.hh.free z)
      have q8 := g8.fr p q7 hp7
      refine g9.fr p q8 fun z => ?_
      by_cases hb : p = x
      · subst hb; rw [upd_same] at z; cases z
      · rw [upd_ne hb] at z; exact hp7 (g8.hh.free z)
    · have e : H9 x = some (.ins C dx (L2.putF "name_pairs" u1 [])) := g9.hh _ _ upd_same
      exact upd_same
end
end K3
set_option Elab.async false
set_option linter.all false
set_option maxRecDepth 100000
set_option maxHeartbeats 1000000
namespace K3
open PySem L2 OB
theorem fun_okD {P : Program} {w : World} {K : Fg} {mg : Str → Option Value} {base : Heap} {x qual : Str} {st : Stmt} {f : Addr} {fd : FuncData} {ps N : List Str} {k : Nat} {α : Type} {args : α → List Pr} {pre : α → Prop} {res : α → Pr} (F : Fun K x qual st f fd) (S : FnScope N ps (defScope st)) (hlen : ∀ a, (args a).length = ps.length)
    (hbody : ∀ (cdv : Value) (A : Around) (outer : List PySem.Env) (s : Shared) (H : Hp) (E : XK) (Q : VK) (a : α) (G : Hp), Room k (A.deeper (PyProof.Rows.envOfC qual (defScope st) s.heap.objs.size f cdv)) → Same G H → pre a →
      (∀ v G' H', Gr G H G' H' → (res a).r v G' → Q v H') →
      ∃ t, PSs (cxOf CX0 P w K mg base N qual (defScope st) f cdv A outer s H E).nox (defBody st) t ∧ ∀ σ, Env N.length G σ (idx 0 (args a)) → t { nx := fun _ H' => Q .non H', rt := Q } σ H) : FnOk P w K mg base CX0 (k + 1) f fd ps (spD args pre res) := by
  have hn : ps.length ≤ N.length := by
    have e := congrArg List.length S.pre
    rw [List.length_take] at e
    omega
  refine F.ok S (fun vs H Q E h => ?_) (fun cdv A outer s H vs Q E hr h => ?_)
  · obtain ⟨a, G, _, h, _⟩ := h
    rw [allR_len h, hlen a]
  · obtain ⟨a, G, sm, al, pr, k⟩ := h
    obtain ⟨t, ht, hw⟩ := hbody cdv A outer s H E Q a G hr sm pr k
    exact ⟨t, ht, hw _ (env_start al (by rw [hlen a]; exact hn))⟩
section
variable {P : Program} {w : World} {K : Fg} {mg : Str → Option Value} {base : Heap} {σ : L2.St} {G H : Hp} {te ta tb : TE} {C : Addr} {r : List Nm × List Item}
theorem ev_fldN (TC : CTx K C) (h : Ev ta σ G (WebP K C r)) : Ev (tFld K ta "name_pairs") σ G (D K (.tuple (r.1.map OB.dNm))) := fun H s Q q => h H s _ fun v G' H' g ⟨a, dx, fs, v1, v2, e1, e2, e3, e4, e5, e6, e7, e8⟩ => ⟨a, C, dx, fs, v1, e1, g.gh _ _ e2, TC.cl, TC.nN, e4, q v1 G' H' g e7⟩
theorem ev_fldI (TC : CTx K C) (h : Ev ta σ G (WebP K C r)) : Ev (tFld K ta "item_pairs") σ G (D K (.tuple (r.2.map dIt))) := fun H s Q q => h H s _ fun v G' H' g ⟨a, dx, fs, v1, v2, e1, e2, e3, e4, e5, e6, e7, e8⟩ => ⟨a, C, dx, fs, v2, e1, g.gh _ _ e2, TC.cl, TC.nI, e5, q v2 G' H' g e8⟩
/-! __len__ -/
abbrev s_len : Stmt := inClass (top 19) 6
theorem sc_len : FnScope ["self"] ["self"] (defScope s_len) := ⟨rfl, rfl, rfl, by decide +kernel, rfl, by decide +kernel, by decide +kernel⟩
def sp_len (K : Fg) (C : Addr) : Sp := spD (α := List Nm × List Item) (fun r => [WebP K C r]) (fun _ => True) (fun r => D K (.int (r.2.length : Nat)))
theorem ok_len {f : Addr} {fd : FuncData} (F : Fun K "__len__" "Web.__len__" s_len f fd) (T : Tx mg) (TC : CTx K C) : FnOk P w K mg base CX0 1 f fd ["self"] (sp_len K C) := by
  refine fun_okD F sc_len (fun _ => rfl) (fun cdv A outer s H E Q r G hr sm pr k => ?_)
  refine ⟨_, (pss_one (ps_ret (pe_callB call_len_seq (by rfl) (T.nb' "len") (by decide +kernel) (pa_cons (pe_fld (pv 0) rfl) pa_nil)))), fun σ e => ?_⟩
  exact w_ret (.refl sm) ((ev_lenT (ev_fldI TC (ev_v e))).is (by rw [List.length_map])) k
/-! is_heap -/
abbrev s_heap : Stmt := inClass (top 19) 4
theorem sc_heap : FnScope ["self", "word", "targets"] ["self"] (defScope s_heap) := ⟨rfl, rfl, rfl, by decide +kernel, rfl, by decide +kernel, by decide +kernel⟩
def heapB (its : List Item) : Bool := its.all fun p => decide (p.1 = "cell")
def sp_heap (K : Fg) (C : Addr) : Sp := spD (α := List Nm × List Item) (fun r => [WebP K C r]) (fun r => r.2.length ≤ 1000) (fun r => D K (.bool (heapB r.2)))
theorem ok_heap {f : Addr} {fd : FuncData} (F : Fun K "is_heap" "Web.is_heap" s_heap f fd) (T : Tx mg) (TC : CTx K C) : FnOk P w K mg base CX0 1 f fd ["self"] (sp_heap K C) := by
  have nd := sc_heap.nd
  refine fun_okD F sc_heap (fun _ => rfl) (fun cdv A outer s H E Q r G hr sm pr k => ?_)
  refine ⟨_, (pss_one (ps_ret (pe_callB (cr_all rfl) (by rfl) (T.nb' "all") (by decide +kernel) (pa_cons (pe_lc (own := [("word", 1), ("targets", 2)]) (g := (gTup K 2 (gCons (gName 1) (gCons (gName 2) gNil)))) rfl nd (pi_tup (pe_fld (pv 0) rfl)) (blkOk_by (by kernel_rfl)) (fun _ _ _ _ _ => (pg_tup rfl (pgs_cons (pg_name (i := 1) nd rfl (Or.inl rfl)) (pgs_cons (pg_name (i := 2) nd rfl (Or.inl rfl)) pgs_nil)))) (fun _ _ _ _ _ => pts_nil) (fun _ _ _ _ _ => (pe_cmpR op_eq (pv 1) (pe_gs (by rfl) T.g_CELL) (nomark _)))) pa_nil)))), fun σ e => ?_⟩
  refine w_ret (.refl sm) (Ev.is (d := .bool ((r.2.map fun p => decide (p.1 = ("cell" : Str))).all id)) (ev_all ?_) (by rw [all_map_id]; rfl)) k
  rw [List.map_map]
  exact ev_lcB (l' := []) r.2 (fun p => .str p.1) (fun p => tInts p.2) (fun p => .bool (decide (p.1 = ("cell" : Str)))) (fun b c q1 q2 => by
      injection q1 with q1; exact Prod.ext q1 (tInts_inj q2)) (src_tup (ev_fldI TC (ev_v e))) pr e (fun k R q => by cases q) (by decide) (by decide) (by decide) fun b σ2 G' _ _ e2 => ev_eqS (ev_v e2) ev_str
end
end K3
set_option Elab.async false
set_option linter.all false
set_option maxRecDepth 100000
set_option maxHeartbeats 1000000
namespace K3
open PySem L2 OB
/-! data compared -/
theorem eqvAll_map {β : Type} [DecidableEq β] (enc : β → PyData) (h : ∀ x y, PyData.eqv (enc x) (enc y) = decide (x = y)) : ∀ a b : List β, PyData.eqvAll (a.map enc) (b.map enc) = decide (a = b)
  | [], [] => by simp [PyData.eqvAll]
  | [], _ :: _ => by simp [PyData.eqvAll]
  | _ :: _, [] => by simp [PyData.eqvAll]
  | x :: a, y :: b => by
    rw [List.map_cons, List.map_cons]
    simp only [PyData.eqvAll]
    rw [h x y, eqvAll_map enc h a b]
    by_cases e1 : x = y <;> by_cases e2 : a = b <;> simp [e1, e2]
theorem eqv_int (x y : Int) : PyData.eqv (.int x) (.int y) = decide (x = y) := by
  simp only [PyData.eqv]
  exact Bool.beq_eq_decide_eq ..
theorem eqv_str (x y : Str) : PyData.eqv (.str x) (.str y) = decide (x = y) := by
  simp only [PyData.eqv]
  exact Bool.beq_eq_decide_eq ..
theorem eqv_tInts (x y : List Int) : PyData.eqv (tInts x) (tInts y) = decide (x = y) := by
  unfold tInts
  simp only [PyData.eqv]
  exact eqvAll_map _ eqv_int x y
theorem eqv_pair (a b c d : PyData) : PyData.eqv (.tuple [a, b]) (.tuple [c, d]) = (PyData.eqv a c && PyData.eqv b d) := by
  simp [PyData.eqv, PyData.eqvAll]
theorem eqv_nm (x y : Nm) : PyData.eqv (OB.dNm x) (OB.dNm y) = decide (x = y) := by
  unfold OB.dNm
  rw [eqv_pair, eqv_str, eqv_int]
  obtain ⟨a, b⟩ := x
  obtain ⟨c, d⟩ := y
  by_cases e1 : a = c <;> by_cases e2 : b = d <;> simp [e1, e2]
theorem eqv_it (x y : Item) : PyData.eqv (dIt x) (dIt y) = decide (x = y) := by
  unfold dIt
  rw [eqv_pair, eqv_str, eqv_tInts]
  obtain ⟨a, b⟩ := x
  obtain ⟨c, d⟩ := y
  by_cases e1 : a = c <;> by_cases e2 : b = d <;> simp [e1, e2]
theorem eqv_tNames (a b : List Nm) : PyData.eqv (.tuple (a.map OB.dNm)) (.tuple (b.map OB.dNm)) = decide (a = b) := by
  simp only [PyData.eqv]
  exact eqvAll_map _ eqv_nm a b
theorem eqv_tItems (a b : List Item) : PyData.eqv (.tuple (a.map dIt)) (.tuple (b.map dIt)) = decide (a = b) := by
  simp only [PyData.eqv]
  exact eqvAll_map _ eqv_it a b
abbrev Raw := List Nm × List Item
def dRaw (r : Raw) : PyData := .tuple [dNames r.1, dItems r.2]
theorem eqv_raw (x y : Raw) : PyData.eqv (dRaw x) (dRaw y) = decide (x = y) := by
  unfold dRaw dNames dItems
  rw [eqv_pair]
  simp only [PyData.eqv]
  rw [eqvAll_map _ eqv_nm, eqvAll_map _ eqv_it]
  obtain ⟨a, b⟩ := x
  obtain ⟨c, d⟩ := y
  by_cases e1 : a = c <;> by_cases e2 : b = d <;> simp [e1, e2]
/-! shapes of data -/
def Sh (n : Nat) (d : PyData) : Prop := d.canLay0 = true ∧ d.depth ≤ n
theorem Sh.ok {n : Nat} {d : PyData} (h : Sh n d) (hn : n ≤ 64 := by decide) : SeqAt.shaped d = true := by
  show (d.canLay0 && decide (d.depth ≤ 64)) = true
  rw [h.1, decide_eq_true (Nat.le_trans h.2 hn)]
  rfl
theorem sh_all {n : Nat} : ∀ (ds : List PyData), (∀ d ∈ ds, Sh n d) → PyData.canLayAll0 ds = true ∧ PyData.depthAll ds ≤ n
  | [], _ => by simp [PyData.canLayAll0, PyData.depthAll]
  | d :: ds, h => by
    have h1 := h d List.mem_cons_self
    have h2 := sh_all ds fun x hx => h x (List.mem_cons_of_mem _ hx)
    have h3 := h1.2
    have h4 := h2.2
    simp only [PyData.canLayAll0, PyData.depthAll, h1.1, h2.1, Bool.and_self, true_and]
    omega
theorem sh_list {n : Nat} {ds : List PyData} (h : ∀ d ∈ ds, Sh n d) : Sh (n + 1) (.list ds) := by
  have := sh_all ds h
  refine ⟨by simp only [PyData.canLay0]; exact this.1, ?_⟩
  simp only [PyData.depth]
  omega
theorem sh_tup {n : Nat} {ds : List PyData} (h : ∀ d ∈ ds, Sh n d) : Sh (n + 1) (.tuple ds) := by
  have := sh_all ds h
  refine ⟨by simp only [PyData.canLay0]; exact this.1, ?_⟩
  simp only [PyData.depth]
  omega
theorem sh_int (i : Int) : Sh 0 (.int i) := ⟨by simp [PyData.canLay0], by simp [PyData.depth]⟩
theorem sh_str {s : Str} (h : PyData.strOk s = true) : Sh 0 (.str s) := ⟨by simp [PyData.canLay0, h], by simp [PyData.depth]⟩
theorem sh_bool (b : Bool) : Sh 0 (.bool b) := ⟨by simp [PyData.canLay0], by simp [PyData.depth]⟩
theorem Sh.up {n m : Nat} {d : PyData} (h : Sh n d) (hm : n ≤ m) : Sh m d := ⟨h.1, Nat.le_trans h.2 hm⟩
theorem sh_nm {p : Nm} (h : PyData.strOk p.1 = true) : Sh 1 (OB.dNm p) := sh_tup fun d hd => by
  simp only [List.mem_cons, List.not_mem_nil, or_false] at hd
  rcases hd with rfl | rfl
  · exact sh_str h
  · exact sh_int _
theorem sh_tInts (l : List Int) : Sh 1 (tInts l) := sh_tup fun d hd => by
  obtain ⟨i, _, rfl⟩ := List.mem_map.mp hd
  exact sh_int i
theorem sh_it {p : Item} (h : PyData.strOk p.1 = true) : Sh 2 (dIt p) := sh_tup fun d hd => by
  simp only [List.mem_cons, List.not_mem_nil, or_false] at hd
  rcases hd with rfl | rfl
  · exact (sh_str h).up (by decide)
  · exact sh_tInts _
theorem sh_map {β : Type} {n : Nat} {enc : β → PyData} {l : List β} (h : ∀ b ∈ l, Sh n (enc b)) : ∀ d ∈ l.map enc, Sh n d := fun d hd => by
  obtain ⟨i, hi, rfl⟩ := List.mem_map.mp hd
  exact h i hi
inductive Oth
  | web (r : Raw) | txt (z : Str) | raw (r : Raw)
/-- texts that may stand in data -/
def RawS (r : Raw) : Prop := (∀ p ∈ r.1, PyData.strOk p.1 = true) ∧ ∀ q ∈ r.2, PyData.strOk q.1 = true
def OthS : Oth → Prop
  | .web r => RawS r
  | _ => True
theorem sh_raw {r : Raw} (h : RawS r) : Sh 4 (dRaw r) := sh_tup fun d hd => by
  simp only [List.mem_cons, List.not_mem_nil, or_false] at hd
  rcases hd with rfl | rfl
  · exact (sh_list (sh_map fun p hp => sh_nm (h.1 p hp))).up (by decide)
  · exact sh_list (sh_map fun p hp => sh_it (h.2 p hp))
section
variable {P : Program} {w : World} {K : Fg} {mg : Str → Option Value} {base : Heap} {C : Addr}
/-! __eq__ -/
def OthP (K : Fg) (C : Addr) : Oth → Pr
  | .web r => WebP K C r
  | .txt z => D K (.str z)
  | .raw r => D K (dRaw r)
def othB (r : Raw) : Oth → Bool
  | .web r' => decide (r = r')
  | _ => false
structure ETx (K : Fg) (C : Addr) (mg : Str → Option Value) : Prop where
  mgC : mg "Web" = some (.ref C)
  ca : PySem.W.findIn K (.ref C) "__class__" = some (some (.builtin "object.__class__"))
  cn : PySem.W.specialIn K (.builtin "object.__class__") "__get__" = some (some (.builtin "getset_descriptor.__get__"))
  ct : PySem.W.takesIn K (.builtin "object.__class__") = some true
  cm : PySem.W.mroIn K C (.type "object") = some true
  k2 : PySem.W.kitOne K (.type "str") (.ref C) = some false
  k3 : PySem.W.kitOne K (.type "tuple") (.ref C) = some false
abbrev s_eq : Stmt := inClass (top 19) 5
theorem sc_eq : FnScope ["self", "other"] ["self", "other"] (defScope s_eq) := ⟨rfl, rfl, rfl, by decide +kernel, rfl, by decide +kernel, by decide +kernel⟩
def sp_eq (K : Fg) (C : Addr) : Sp := spD (α := Raw × Oth) (fun a => [WebP K C a.1, OthP K C a.2]) (fun a => RawS a.1 ∧ OthS a.2) (fun a => D K (.bool (othB a.1 a.2)))
theorem tyx_tup {H : Hp} {a : Addr} {xs : List V} (h : SqT K H a xs) : TyX K H (.ref a) (.type "tuple") := by
  rcases h with (h | ⟨o, h⟩) | ⟨o, its, n, h1, h2, _⟩
  · exact .base (.tup h)
  · exact .fTuple h
  · exact .kTuple h1 h2
theorem ok_eq {f : Addr} {fd : FuncData} (F : Fun K "__eq__" "Web.__eq__" s_eq f fd) (T : Tx mg) (TC : CTx K C) (TE : ETx K C mg) : FnOk P w K mg base CX0 1 f fd ["self", "other"] (sp_eq K C) := by
  refine fun_okD F sc_eq (fun _ => rfl) (fun cdv A outer s H E Q a G hr sm pr k => ?_)
  have hu64 : (A.deeper (PyProof.Rows.envOfC "Web.__eq__" (defScope s_eq) s.heap.objs.size f cdv)).units + 64 < cLine := by have := hr.un; omega
  refine ⟨_, (pss_one (ps_ret (pe_and (pe_callB call_isi (by rfl) (T.nb' "isinstance") (by decide +kernel) (pa_cons (pv 1) (pa_cons (pe_glob (v := .ref C) (by rfl) TE.mgC rfl) pa_nil))) (pe_and (pe_cmpR (op_eqD hu64) (pe_fld (pv 0) rfl) (pe_fld (pv 1) rfl) (nomark _)) (pe_one (pe_cmpR (op_eqD hu64) (pe_fld (pv 0) rfl) (pe_fld (pv 1) rfl) (nomark _))))))), fun σ e => ?_⟩
  obtain ⟨r, o⟩ := a
  have isi : ∀ b : Bool, (∀ v G', (OthP K C o).r v G' → ∀ H', Same G' H' → ∃ t, TyX K H' v t ∧ PySem.W.kitOne K t (.ref C) = some b) → Ev (tCB (rIsi K) (tCons (tVar 1) (tCons (tC (.ref C)) tNil))) σ G (D K (.bool b)) := fun b hb =>
    ev_cb (Rs := [OthP K C o, Rf C]) (ea_cons (ev_v e) (ea_cons (fun H s Q q => q _ G H (.refl s) rfl) ea_nil)) fun vs G1 _ al H s Q q => by
      match vs, al with
      | [v, c], ⟨r1, rc, _⟩ =>
        cases (show c = .ref C from rc)
        obtain ⟨t, h1, h2⟩ := hb v G1 r1 H s
        exact ⟨v, .ref C, t, .ref C, b, rfl, .own C, h1, h2, q _ G1 H (.refl s) (.bl b)⟩
  cases o with
  | web r' =>
    have h1 := isi true fun v G' ⟨a, dx, fs, v1, v2, e1, e2, _⟩ H' s => ⟨.ref C, by rw [e1]; exact .base (.ins (s _ _ e2) TC.cl TE.ca TE.cn TE.ct TE.cm), by unfold PySem.W.kitOne; rw [if_pos (by simp)]⟩
    have e1 : Env 2 G σ [(1, WebP K C r'), (0, WebP K C r)] := e.pick (e.pick e.nil)
    refine w_ret (.refl sm) (Ev.is (ev_andV h1 fun _ => ev_andV (ev_eqD (ev_fldN TC (ev_v e1)) (ev_fldN TC (ev_v e1)) (sh_tup (sh_map fun p hp => sh_nm (pr.1.1 p hp))).ok (sh_tup (sh_map fun p hp => sh_nm (pr.2.1 p hp))).ok) fun _ => ev_eqD (ev_fldI TC (ev_v e1)) (ev_fldI TC (ev_v e1)) (sh_tup (sh_map fun p hp => sh_it (pr.1.2 p hp))).ok (sh_tup (sh_map fun p hp => sh_it (pr.2.2 p hp))).ok) ?_) k
    rw [eqv_tNames, eqv_tItems]
    show PyData.bool _ = PyData.bool (decide (r = r'))
    obtain ⟨a, b⟩ := r
    obtain ⟨c, d⟩ := r'
    by_cases e1 : a = c <;> by_cases e2 : b = d <;> simp [e1, e2]
  | txt z =>
    have h1 := isi false fun v G' h H' s => ⟨_, by cases dp_str h; exact .base (.str z), TE.k2⟩
    exact w_ret (.refl sm) (Ev.is (d := .bool (false && false)) (ev_andV h1 fun z => nomatch z) rfl) k
  | raw r' =>
    have h1 := isi false fun v G' h H' s => by
      obtain ⟨a, xs, rfl, hs, _⟩ := dp_tup (show Dp K G' v (.tuple [dNames r'.1, dItems r'.2]) from h)
      exact ⟨_, tyx_tup (sm_t s hs), TE.k3⟩
    exact w_ret (.refl sm) (Ev.is (d := .bool (false && false)) (ev_andV h1 fun z => nomatch z) rfl) k
end
end K3
set_option Elab.async false
set_option linter.all false
set_option maxRecDepth 100000
set_option maxHeartbeats 400000
namespace OB
open PySem L2
section
variable {K : Fg} {σ : L2.St} {G G1 H : Hp} {te ta tb tc : TE} {R A B : Pr} {d e : PyData}
theorem lc_new {Q : VK} {wi : TI} {g : TG} {tt : TT} {vs : List Nat} {ds : List PyData} (keep : PyData → Bool) (f : PyData → Pr) (s : Same G H) (hs : Src K wi σ G ds) (hl : ds.length ≤ 1000)
    (ht : ∀ (k : Nat) d v G', ds[k]? = some d → Same G G' → Dp K G' v d → ∃ σ2, Tg g (wipe σ vs) G' v σ2 ∧ wipe σ2 vs = wipe σ vs ∧ EvT tt σ2 G' (keep d) ∧ (keep d = true → Ev te σ2 G' (f d)))
    (q : ∀ p acc G' H', H p = none → G' p = none → Gr G H G' H' → H' p = some (.lst acc) → AllR G' acc ((ds.filter keep).map f) → Q (.ref p) H') : tLc wi g tt te vs σ H Q := hs H s _ fun J G1 H1 xs g1 hx wk Dd hD => by
  have hG1 : G1 Dd = none := g1.gh.free hD
  refine lc_it wk (fun i H' => ∃ Gi acc, Same G1 Gi ∧ Same Gi H' ∧ Gi Dd = none ∧ (∀ p o, H1 p = some o → H' p = some o) ∧ (∀ p, G1 p = none → H1 p ≠ none → Gi p = none) ∧ H' Dd = some (.lst acc) ∧ AllR Gi acc (((ds.take i).filter keep).map f)) ?_ ?_ ?_ ?_
  · exact ⟨G1, [], Same.refl _, fun b o e => by rw [upd_ne (ne_of_none e hG1)]; exact g1.gh b o e, hG1, fun p o e => by rw [upd_ne (ne_of_none e hD)]; exact e, fun _ h _ => h, upd_same, by simp [AllR]⟩
  · rintro i H' _ ⟨Gi, acc, h1, h2, _⟩
    exact h1.trans h2
  · rintro i x H' H'' hi ⟨Gi, acc, h1, h2, h3, h4, h5, h6, h7⟩ ⟨rfl, hxi⟩
    have hdi : ∃ d, ds[i]? = some d := ⟨ds[i], by simp [hi]⟩
    obtain ⟨d, hd⟩ := hdi
    obtain ⟨v, e1, e2⟩ := dpa_get hx hd
    rw [hxi] at e1
    cases e1
    obtain ⟨σ2, a1, a2, a3, a4⟩ := ht i d x Gi hd (g1.gg.trans h1) (dp_mono h1 _ _ e2)
    refine a1 H'' h2 _ ⟨a2, a3 H'' h2 _ fun G3 H3 g3 => ?_⟩
    have hG3 : G3 Dd = none := g3.fr Dd h3 (by rw [h6]; intro z; cases z)
    have t3 := filter_take keep hd
    cases hk : keep d with
    | true =>
      rw [hk, if_pos rfl] at t3
      refine iteT ((a4 hk).mono g3.gg H3 g3.gh _ fun y G4 H4 g4 r4 => ?_)
      have hG4 : G4 Dd = none := g4.fr Dd hG3 (by rw [g3.hh _ _ h6]; intro z; cases z)
      have hal := allR_len h7
      have hlen : acc.length ≤ ds.length := by
        rw [hal, List.length_map]
        exact Nat.le_trans (List.length_filter_le _ _) (by rw [List.length_take]; exact Nat.min_le_right _ _)
      refine ⟨acc, g4.hh _ _ (g3.hh _ _ h6), Nat.lt_of_le_of_lt (Nat.le_trans hlen hl) (by decide), G4, acc ++ [y], h1.trans (g3.gg.trans g4.gg), same_mut g4.gh hG4, hG4, fun p o e => ?_, fun p z1 z2 => ?_, upd_same, ?_⟩
      · rw [upd_ne (ne_of_none e hD)]
        exact g4.hh _ _ (g3.hh _ _ (h4 p o e))
      · refine g4.fr p (g3.fr p (h5 p z1 z2) fun z => ?_) fun z => ?_
        · cases q : H1 p with
          | none => exact z2 q
          | some o => rw [h4 p o q] at z; cases z
        · cases q : H1 p with
          | none => exact z2 q
          | some o => rw [g3.hh _ _ (h4 p o q)] at z; cases z
      · rw [t3, List.map_append]
        exact allR_app (AllR.mono (g3.gg.trans g4.gg) h7) ⟨r4, trivial⟩
    | false =>
      rw [hk, if_neg Bool.false_ne_true, List.append_nil] at t3
      refine iteF ⟨G3, acc, h1.trans g3.gg, g3.gh, hG3, fun p o e => g3.hh _ _ (h4 p o e), fun p z1 z2 => g3.fr p (h5 p z1 z2) fun z => ?_, g3.hh _ _ h6, ?_⟩
      · cases q : H1 p with
        | none => exact z2 q
        | some o => rw [h4 p o q] at z; cases z
      · rw [t3]
        exact AllR.mono g3.gg h7
  · rintro H' ⟨Gi, acc, h1, h2, h3, h4, h5, h6, h7⟩
    rw [List.take_length] at h7
    have gi : Gr G1 H1 Gi H' := ⟨h1, h2, h4, h5⟩
    exact q Dd acc Gi H' (g1.hh.free hD) h3 (g1.trans gi) h6 h7
/-- x = [..], the list ours -/
theorem q_lcOwn {n : Nat} {l : List (Nat × Pr)} {Dn : Ends} {G0 H0 : Hp} {u : TS} (i : Nat) {wi : TI} {g : TG} {vs : List Nat} {ds : List PyData} (f : PyData → PyData) (E : Env n G σ l) (g0 : Gr G0 H0 G H) (hi : i < n) (hs : Src K wi σ G ds) (hl : ds.length ≤ 1000)
    (ht : ∀ (k : Nat) d v G', ds[k]? = some d → Same G G' → Dp K G' v d → ∃ σ2, Tg g (wipe σ vs) G' v σ2 ∧ wipe σ2 vs = wipe σ vs ∧ Ev te σ2 G' (D K (f d)))
    (k : ∀ p acc σ' G' H', H p = none → G' p = none → Env n G' σ' ((i, Rf p) :: l) → Gr G0 H0 G' H' → Gr G H G' H' → H' p = some (.lst acc) → DpAll K G' acc (ds.map f) → u Dn σ' H') : tSeq (tAsg (tLc wi g tYes te vs) (gName i)) u Dn σ H :=
  show tLc wi g tYes te vs σ H (fun x H1 => gName i x σ H1 (u Dn)) from lc_new (Q := fun x H1 => gName i x σ H1 (u Dn)) (fun _ => true) (fun d => D K (f d)) g0.gh hs hl (fun k d v G' h1 h2 h3 => let ⟨σ2, a, b, c⟩ := ht k d v G' h1 h2 h3; ⟨σ2, a, b, et_yes, fun _ => c⟩) fun p acc G' H' hp hG g1 h1 h2 =>
    k p acc _ G' H' hp hG ((E.mono g1.gg).set hi rfl) (g0.trans g1) g1 h1 (by
      rw [List.filter_eq_self.mpr (fun _ _ => rfl)] at h2
      refine allR_dpa ?_
      rw [List.map_map]
      exact h2)
/-- f-strings -/
theorem ev_fmtS {z : Str} (h : Ev te σ G (D K (.str z))) (hz : z.length ≤ sizeLine) : Ev (tFmt te) σ G (D K (.str z)) := fun H s Q q => h H s _ fun v G' H' g r => by
  cases dp_str r
  exact .inl ⟨z, rfl, hz, q _ G' H' g (.str z)⟩
theorem ev_fmtI {i : Int} (h : Ev te σ G (D K (.int i))) (hi : i.natAbs.log2 < 1920) : Ev (tFmt te) σ G (D K (.str (toString i))) := fun H s Q q => h H s _ fun v G' H' g r => by
  cases dp_int r
  exact .inr ⟨i, rfl, hi, q _ G' H' g (.str _)⟩
def EvJ (K : Fg) (ts : List TE) (acc : Str) (σ : L2.St) (G : Hp) (out : Str) : Prop := ∀ H, Same G H → ∀ Q : Str → Hp → Prop, (∀ G' H', Gr G H G' H' → Q out H') → tJs ts acc σ H Q
theorem ej_nil {acc : Str} : EvJ K [] acc σ G acc := fun H s Q q => q G H (.refl s)
theorem ej_cons {ts : List TE} {acc z out : Str} (h : Ev te σ G (D K (.str z))) (hz : (acc ++ z).length ≤ sizeLine) (hr : ∀ G', Same G G' → EvJ K ts (acc ++ z) σ G' out) : EvJ K (te :: ts) acc σ G out := fun H s Q q => h H s _ fun v G1 H1 g1 r => by
  cases dp_str r
  exact ⟨z, rfl, hz, hr G1 g1.gg H1 g1.gh Q fun G' H' g => q G' H' (g1.trans g)⟩
theorem ev_joined {ts : List TE} {out : Str} (h : EvJ K ts Str.empty σ G out) : Ev (fun σ H Q => tJs ts Str.empty σ H fun out H1 => Q (.str out) H1) σ G (D K (.str out)) := fun H s Q q => h H s _ fun G' H' g => q _ G' H' g (.str _)
end
end OB
set_option Elab.async false
set_option linter.all false
set_option maxRecDepth 100000
set_option maxHeartbeats 1000000
namespace K3
open PySem L2 OB
/-! texts and their lengths -/
theorem len_app (a b : Str) : (a ++ b).length = a.length + b.length := Str.length_append a b
theorem emp_app (a : Str) : Str.empty ++ a = a := by
  show Str.append Str.empty a = a
  unfold Str.append Str.empty
  simp
theorem fold_size (z : Array Nat) : ∀ (ps : List Str) (acc : Array Nat), (ps.foldl (fun acc p => acc ++ z ++ p.cps) acc).size = acc.size + (ps.map (·.length)).sum + ps.length * z.size
  | [], acc => by simp
  | p :: ps, acc => by
    rw [List.foldl_cons, fold_size z ps]
    simp only [Array.size_append, List.map_cons, List.sum_cons, List.length_cons]
    have : p.length = p.cps.size := rfl
    rw [this, Nat.add_mul]
    omega
theorem join_le (z : Str) (ys : List Str) : (Txt.join z ys).length ≤ (ys.map (·.length)).sum + ys.length * z.length := by
  cases ys with
  | nil => simp [Txt.join, Builtin.Str.glued, Str.length, Str.empty]
  | cons y ys =>
    show ((ys.foldl (fun acc p => acc ++ z.cps ++ p.cps) y.cps).size) ≤ _
    rw [fold_size]
    simp only [List.map_cons, List.sum_cons, List.length_cons]
    have h1 : y.length = y.cps.size := rfl
    have h2 : z.length = z.cps.size := rfl
    rw [h1, h2, Nat.add_mul]
    omega
theorem join_one (z y : Str) : Txt.join z [y] = y := by cases y; rfl
theorem sum_le {ys : List Str} {m : Nat} (h : ∀ y ∈ ys, y.length ≤ m) : (ys.map (·.length)).sum ≤ ys.length * m := by
  induction ys with
  | nil => simp
  | cons y ys ih =>
    simp only [List.map_cons, List.sum_cons, List.length_cons]
    have h1 := h y List.mem_cons_self
    have h2 := ih fun x hx => h x (List.mem_cons_of_mem _ hx)
    rw [Nat.add_mul]
    omega
theorem num_len : ∀ n : Fin 1000, ((toString ((n.val : Nat) : Int) : Str)).length ≤ 4 := by decide +kernel
theorem str_len {t : Int} (h1 : 0 ≤ t) (h2 : t < 1000) : ((toString t : Str)).length ≤ 4 := by
  have := num_len ⟨t.toNat, by omega⟩
  simp only at this
  rwa [Int.toNat_of_nonneg h1] at this
theorem mark_len {t : Int} (h1 : -1 ≤ t) (h2 : t < 1000) : (mark t).length ≤ 4 := by
  unfold mark
  split
  · decide
  · split
    · decide
    · exact str_len (by omega) h2
structure TxtOk (r : Raw) : Prop where
  n1 : r.1.length ≤ 6
  n2 : r.2.length ≤ 200
  nm : ∀ p ∈ r.1, p.1.length ≤ 6 ∧ -1 ≤ p.2 ∧ p.2 < 1000
  it : ∀ q ∈ r.2, q.1.length ≤ 8 ∧ q.2.length ≤ 2 ∧ ∀ t ∈ q.2, -1 ≤ t ∧ t < 1000
def nmW (p : Nm) : Str := p.1 ++ "=" ++ mark p.2
def inW (ts : List Int) : Str := Txt.join "," (ts.map mark)
def itW (k : Nat) (p : Item) : Str := (toString (1 + (k : Int)) : Str) ++ ":" ++ p.1 ++ "(" ++ inW p.2 ++ ")"
def itWs (its : List Item) (j : Nat) : List Str := (List.range j).map fun k => itW k (its.getD k ("", []))
def wordsL (r : Raw) : List Str := r.1.map nmW ++ itWs r.2 r.2.length
def textOf (r : Raw) : Str := if wordsL r = [] then "empty" else Txt.join " " (wordsL r)
theorem inW_len {ts : List Int} (h : ts.length ≤ 2) (ht : ∀ t ∈ ts, -1 ≤ t ∧ t < 1000) : ((ts.map mark).map (·.length)).sum ≤ 8 := by
  have := sum_le (ys := ts.map mark) (m := 4) fun y hy => by
    obtain ⟨t, h1, rfl⟩ := List.mem_map.mp hy
    exact mark_len (ht t h1).1 (ht t h1).2
  rw [List.length_map] at this
  have : ts.length * 4 ≤ 2 * 4 := Nat.mul_le_mul_right _ h
  omega
theorem inW_le {ts : List Int} (h : ts.length ≤ 2) (ht : ∀ t ∈ ts, -1 ≤ t ∧ t < 1000) : (inW ts).length ≤ 10 := by
  have h1 := join_le "," (ts.map mark)
  have h2 := inW_len h ht
  rw [List.length_map] at h1
  have h3 : ((("," : Str)).length) = 1 := by decide
  rw [h3] at h1
  unfold inW
  omega
theorem nmW_le {p : Nm} (h : p.1.length ≤ 6 ∧ -1 ≤ p.2 ∧ p.2 < 1000) : (nmW p).length ≤ 11 := by
  unfold nmW
  rw [len_app, len_app]
  have := mark_len h.2.1 h.2.2
  have h3 : ((("=" : Str)).length) = 1 := by decide
  omega
theorem itW_le {k : Nat} {q : Item} (hk : k < 500) (h : q.1.length ≤ 8 ∧ q.2.length ≤ 2 ∧ ∀ t ∈ q.2, -1 ≤ t ∧ t < 1000) : (itW k q).length ≤ 25 := by
  unfold itW
  rw [len_app, len_app, len_app, len_app, len_app]
  have h1 := inW_le h.2.1 h.2.2
  have h2 := str_len (t := 1 + (k : Int)) (by omega) (by omega)
  have h3 : (((":" : Str)).length) = 1 := by decide
  have h4 : ((("(" : Str)).length) = 1 := by decide
  have h5 : (((")" : Str)).length) = 1 := by decide
  omega
theorem getD_mem {α : Type} {l : List α} {k : Nat} {d : α} (h : k < l.length) : l.getD k d ∈ l := by
  rw [List.getD_eq_getElem?_getD, List.getElem?_eq_getElem h]
  exact List.getElem_mem h
theorem getD_of {α : Type} {l : List α} {k : Nat} {x d : α} (h : l[k]? = some x) : l.getD k d = x := by
  rw [List.getD_eq_getElem?_getD, h]
  rfl
theorem words_le {r : Raw} (h : TxtOk r) : ∀ y ∈ wordsL r, y.length ≤ 25 := fun y hy => by
  rcases List.mem_append.mp hy with hy | hy
  · obtain ⟨p, h1, rfl⟩ := List.mem_map.mp hy
    exact Nat.le_trans (nmW_le (h.nm p h1)) (by decide)
  · obtain ⟨k, h1, rfl⟩ := List.mem_map.mp hy
    have hk := List.mem_range.mp h1
    have := h.n2
    exact itW_le (by omega) (h.it _ (getD_mem hk))
theorem words_len {r : Raw} : (wordsL r).length = r.1.length + r.2.length := by
  unfold wordsL itWs
  simp
theorem words_sum {r : Raw} (h : TxtOk r) : ((wordsL r).map (·.length)).sum + (wordsL r).length * ((" " : Str)).length ≤ 16777216 := by
  have h1 := sum_le (words_le h)
  have h2 : (wordsL r).length ≤ 206 := by rw [words_len]; have := h.n1; have := h.n2; omega
  have h3 : (((" " : Str)).length) = 1 := by decide
  rw [h3]
  have : (wordsL r).length * 25 ≤ 206 * 25 := Nat.mul_le_mul_right _ h2
  omega
section
variable {P : Program} {w : World} {K : Fg} {mg : Str → Option Value} {base : Heap} {σ : L2.St} {G H : Hp} {te ta tb : TE}
/-- a new list of ours over pairs -/
theorem q_lcOwnB {β : Type} {n : Nat} {l l' : List (Nat × Pr)} {Dn : Ends} {G0 H0 : Hp} {u : TS} (i a b : Nat) {wi : TI} (bs : List β) (d1 d2 f : β → PyData) (inj : ∀ b c, d1 b = d1 c → d2 b = d2 c → b = c) (E : Env n G σ l) (g0 : Gr G0 H0 G H) (hi : i < n) (hs : Src K wi σ G (bs.map fun b => .tuple [d1 b, d2 b])) (hl : bs.length ≤ 1000)
    (hl' : ∀ k R, l'.lookup k = some R → l.lookup k = some R ∧ k ≠ a ∧ k ≠ b) (ha : a < n) (hb : b < n) (hab : a ≠ b)
    (ht : ∀ c σ2 G', c ∈ bs → Same G G' → Env n G' σ2 ((b, D K (d2 c)) :: (a, D K (d1 c)) :: l') → Ev te σ2 G' (D K (f c)))
    (k : ∀ p acc σ' G' H', H p = none → G' p = none → Env n G' σ' ((i, Rf p) :: l) → Gr G0 H0 G' H' → Gr G H G' H' → H' p = some (.lst acc) → DpAll K G' acc (bs.map f) → u Dn σ' H') : tSeq (tAsg (tLc wi (gTup K 2 (gCons (gName a) (gCons (gName b) gNil))) tYes te [a, b]) (gName i)) u Dn σ H := by
  classical
  let F : PyData → PyData := fun d => if h : ∃ b, .tuple [d1 b, d2 b] = d then f h.choose else .none
  have hF : ∀ b, F (.tuple [d1 b, d2 b]) = f b := fun b => by
    have h : ∃ c, PyData.tuple [d1 c, d2 c] = .tuple [d1 b, d2 b] := ⟨b, rfl⟩
    show (if h : ∃ c, PyData.tuple [d1 c, d2 c] = .tuple [d1 b, d2 b] then f h.choose else .none) = _
    rw [dif_pos h]
    have q := h.choose_spec
    injection q with q
    injection q with q1 q2
    injection q2 with q2 _
    rw [inj _ _ q1 q2]
  have e : (bs.map fun b => PyData.tuple [d1 b, d2 b]).map F = bs.map f := by
    rw [List.map_map]
    exact List.map_congr_left fun b _ => hF b
  refine q_lcOwn i F E g0 hi hs (by rw [List.length_map]; exact hl) (fun k d v G' h1 h2 h3 => ?_) fun p acc σ' G' H' q1 q2 q3 q4 q5 q6 q7 => k p acc σ' G' H' q1 q2 q3 q4 q5 q6 (e ▸ q7)
  rw [List.getElem?_map] at h1
  cases q : bs[k]? with
  | none => rw [q] at h1; cases h1
  | some c =>
    rw [q] at h1
    cases h1
    obtain ⟨v1, v2, x1, x2, tg⟩ := tg_tup2 (σ := wipe σ [a, b]) (i := a) (j := b) h3
    rw [hF c]
    exact ⟨_, tg, wipe_set2 hab, ht c _ G' (List.mem_of_getElem? q) h2 ((((E.wipe2 hl').mono h2).set ha x1).set hb x2)⟩
theorem ev_orTL {ds es : List PyData} (ha : Ev ta σ G (D K (.list ds))) (hb : Ev tb σ G (D K (.list es))) : Ev (tOrT K ta tb) σ G (D K (.list (if ds = [] then es else ds))) := fun H s Q q => ha H s _ fun v G1 H1 g1 r => by
  obtain ⟨p, xs, rfl, hs, hd⟩ := dp_lst r
  refine ⟨!xs.isEmpty, .inl ⟨xs, g1.gh.seq hs, rfl⟩, ?_⟩
  cases hd with
  | nil => exact (hb.mono g1.gg) H1 g1.gh _ fun v G2 H2 g2 r2 => q v G2 H2 (g1.trans g2) (by rw [if_pos rfl]; exact r2)
  | cons h1 h2 => exact q _ G1 H1 g1 (by rw [if_neg (by simp)]; exact .lst hs (.cons h1 h2))
theorem getIt {l : List Item} {j : Nat} {S : Pr} (h : ((l.map dIt).map (D K))[j]? = some S) : ∃ q, l[j]? = some q ∧ S = D K (dIt q) := by
  rw [List.getElem?_map, List.getElem?_map] at h
  cases q : l[j]? with
  | none => rw [q] at h; cases h
  | some p => rw [q] at h; exact ⟨p, rfl, (Option.some.inj h).symm⟩
abbrev n_shown_words : List Str := ["name_pairs", "item_pairs", "words", "target", "name", "number", "word", "targets", "inside"]
abbrev s_shown_words : Stmt := top 28
theorem sc_shown_words : FnScope n_shown_words ["name_pairs", "item_pairs"] (defScope s_shown_words) := ⟨rfl, rfl, rfl, by decide +kernel, rfl, by decide +kernel, by decide +kernel⟩
def shownD (r : Raw) : PyData := .list (if (wordsL r).map PyData.str = [] then [.str "empty"] else (wordsL r).map PyData.str)
def sp_shown_words (K : Fg) : Sp := spD (α := Raw) (fun r => [D K (.tuple (r.1.map OB.dNm)), D K (.tuple (r.2.map dIt))]) (fun r => TxtOk r) (fun r => D K (shownD r))
theorem itWs_succ {l : List Item} {j : Nat} {q : Item} (h : l[j]? = some q) : itWs l (j + 1) = itWs l j ++ [itW j q] := by
  unfold itWs
  rw [List.range_succ, List.map_append]
  simp only [List.map_cons, List.map_nil]
  rw [getD_of h]
theorem ok_shown_words (T : Tx mg) (F : Fd K mg "shown_words" s_shown_words ["name_pairs", "item_pairs"]) (Dshown_target : Def P w K mg base "shown_target" 1 ["target"] (sp_shown_target K)) : Def P w K mg base "shown_words" 2 ["name_pairs", "item_pairs"] (sp_shown_words K) := by
  have nd := sc_shown_words.nd
  refine F.okD sc_shown_words (fun _ => rfl) (fun f cdv A outer s H E Q r G hr sm pr k => ?_)
  refine ⟨_, (pss_cons (ps_setLc (i := 2) (own := [("name", 4), ("target", 3)]) (g := (gTup K 2 (gCons (gName 4) (gCons (gName 3) gNil)))) rfl nd rfl rfl (sw_true rfl rfl rfl (by decide +kernel)) (pi_tup (pv 0)) (blkOk_by (by kernel_rfl)) (fun _ _ _ _ _ => (pg_tup rfl (pgs_cons (pg_name (i := 4) nd rfl (Or.inl rfl)) (pgs_cons (pg_name (i := 3) nd rfl (Or.inl rfl)) pgs_nil)))) (fun _ _ _ _ _ => pts_nil) (fun _ _ _ _ _ => (pe_joined (PJ.cons (pe_fmt (pv 4)) (PJ.cons pe_str (PJ.cons (pe_fmt (pe_def Dshown_target hr (by rfl) (pa_cons (pv 3) pa_nil))) PJ.nil))))))
      (pss_cons (ps_for PassesOwn.never rfl (pi_enum1 (by rfl) (T.nb' "enumerate") (pa_cons (pv 1) pa_nil) (pk_cons pe_int pk_nil)) (pg_tup rfl (pgs_cons (pg_name (i := 5) nd rfl (Or.inl rfl)) (pgs_cons (pg_tup rfl (pgs_cons (pg_name (i := 6) nd rfl (Or.inl rfl)) (pgs_cons (pg_name (i := 7) nd rfl (Or.inl rfl)) pgs_nil))) pgs_nil)))
      (pss_cons (ps_set (i := 8) nd rfl (Or.inl rfl) (pe_join pe_str (pe_lc (own := [("target", 3)]) (g := (gName 3)) rfl nd (pi_tup (pv 7)) (blkOk_by (by kernel_rfl)) (fun _ _ _ _ _ => (pg_name (i := 3) nd rfl (Or.inl rfl))) (fun _ _ _ _ _ => pts_nil) (fun _ _ _ _ _ => (pe_def Dshown_target hr (by rfl) (pa_cons (pv 3) pa_nil))))))
      (pss_one (ps_expr (pe_bm PySem.F.plainAttrs_list PySem.F.slot_list_append PySem.F.type_list_append mt_append (pv 2) (pa_cons (pe_joined (PJ.cons (pe_fmt (pv 5)) (PJ.cons pe_str (PJ.cons (pe_fmt (pv 6)) (PJ.cons pe_str (PJ.cons (pe_fmt (pv 8)) (PJ.cons pe_str PJ.nil))))))) pa_nil))))))
      (pss_one (ps_ret (pe_orT (pv 2) (pe_one (pe_lst (pa_cons (pe_gs (by rfl) T.g_EMPTY) pa_nil)))))))), fun σ e => ?_⟩
  have pr : TxtOk r := pr
  have sz : ∀ {m : Nat}, m ≤ 1000 → m ≤ sizeLine := fun h => sz8 h
  refine q_lcOwnB (l' := []) 2 4 3 r.1 (fun p => .str p.1) (fun p => .int p.2) (fun p => .str (nmW p)) (fun b c q1 q2 => by
      injection q1 with q1; injection q2 with q2; exact Prod.ext q1 q2) e (.refl sm) (by decide) (src_tup (ev_v e)) (by have := pr.n1; omega) (fun k R q => by cases q) (by decide) (by decide) (by decide) (fun p σ2 G' hp _ e2 => ?_) fun p acc σ1 G1 H1 hp pG1 e1 g1 _ hpl hacc => ?_
  · have hb := pr.nm p hp
    have hl := nmW_le hb
    have hm := mark_len hb.2.1 hb.2.2
    have h1 : (("=" : Str)).length = 1 := by decide
    refine (ev_joined (ej_cons (ev_fmtS (ev_v e2) (sz (by omega))) (by rw [emp_app]; exact sz (by omega)) fun G3 s3 => ej_cons ev_str (by rw [emp_app, len_app, h1]; exact sz (by omega)) fun G4 s4 => ej_cons (ev_fmtS (ev_call0 p.2 (ea_cons (ev_v (e2.mono (s3.trans s4))) ea_nil) (by show p.2.natAbs < 1000; omega)) (sz (by omega))) (by rw [emp_app, len_app, len_app, h1]; exact sz (by omega)) fun G5 s5 => ej_nil)).is (by rw [emp_app]; rfl)
  have hlen : ∀ K', (oneTo K' (r.2.map dIt).length).length = r.2.length := fun K' => by simp [oneTo]
  refine w_forP (Dn := { nx := _, rt := _, bk := _, ct := _ }) g1.gh (srcP_enumT (ev_v e1)) fun G2 H2 g2 => ⟨fun j σ' G' H' => Gr G H G' H' ∧ G' p = none ∧ ∃ acc, H' p = some (.lst acc) ∧ DpAll K G' acc ((r.1.map fun p => .str (nmW p)) ++ (itWs r.2 j).map PyData.str) ∧ Env 9 G' σ' [(2, Rf p)], ?_, ?_, ?_⟩
  · exact ⟨g1.trans g2, g2.fr p pG1 (by rw [hpl]; intro z; cases z), acc, g2.hh _ _ hpl, by rw [show itWs r.2 0 = [] from rfl]; simpa using dpa_mono g2.gg _ _ hacc, (have e := e1.mono g2.gg; e.pick e.nil)⟩
  · rintro j R S T v1 v2 σ' G' H' hR hS s1 s2 r1 r2 ⟨z1, z2, acc, z3, z4, z7⟩ hT
    obtain ⟨q, hq, rfl⟩ := getIt hS
    have hjl : j < r.2.length := (List.getElem?_eq_some_iff.mp hq).1
    have hn2 := pr.n2
    have eR : R = D K (.int (1 + (j : Nat))) := by
      unfold oneTo at hR
      rw [List.getElem?_map, List.getElem?_range (by rw [List.length_map]; exact hjl)] at hR
      exact (Option.some.inj hR).symm
    subst eR
    obtain ⟨b1, b2, b3⟩ := pr.it q (List.mem_of_getElem? hq)
    refine g_pairT hT s2 r2 fun w1 w2 x1 x2 => ?_
    have e3 := ((z7.set (i := 5) (R := D K (.int (1 + (j : Nat)))) (by decide) r1).set (i := 6) (R := D K (.str q.1)) (by decide) x1).set (i := 7) (R := D K (tInts q.2)) (by decide) x2
    have s3 : Same G' (upd H' T (.tup [v1, v2])) := s2.trans (same_upd hT)
    have pT : p ≠ T := ne_of_none z3 hT
    have g3 := z1.grow (same_upd (o := .tup [v1, v2]) hT)
    refine q_asg 8 e3 g3 (R := D K (.str (inW q.2))) (ev_join (z := ",") (ys := q.2.map mark) ev_str ?_ ?_) (by decide) fun σ4 G4 H4 e4 g4 gg4 => ?_
    · rw [List.map_map]
      exact ev_lcI (fun t => .str (mark t)) (src_tup (ev_v e3)) (by omega) e3 [] lk0 (by decide) fun o σ2 G5 ho _ e5 => ev_call0 o (ea_cons (ev_v e5) ea_nil) (by show o.natAbs < 1000; have := b3 o ho; omega)
    · have := inW_len b2 b3
      have h1 : ((("," : Str)).length) = 1 := by decide
      rw [List.length_map, h1]
      omega
    have pG4 : G4 p = none := gg4.fr p z2 (by rw [upd_ne pT, z3]; intro z; cases z)
    have hp4 := gg4.hh _ _ (show upd H' T (.tup [v1, v2]) p = some (.lst acc) by rw [upd_ne pT]; exact z3)
    have hlacc : acc.length ≤ 1000 := by
      rw [dpa_len z4]
      have := pr.n1
      simp only [List.length_append, List.length_map, itWs, List.length_range]
      omega
    have hil := inW_le b2 b3
    have hnl := str_len (t := 1 + (j : Int)) (by omega) (by omega)
    have h1 : (((":" : Str)).length) = 1 := by decide
    have h2 : ((("(" : Str)).length) = 1 := by decide
    have h3 : (((")" : Str)).length) = 1 := by decide
    refine w_append e4 g4.gh rfl hp4 (Nat.lt_of_le_of_lt hlacc (by decide)) (R := D K (.str (itW j q))) ?_ fun v G5 H5 g5 r5 => ?_
    · refine (ev_joined (ej_cons (ev_fmtI (i := 1 + (j : Nat)) (ev_v e4) (log_small (by omega))) (by rw [emp_app]; exact sz (by omega)) fun Ga sa => ej_cons ev_str (by rw [emp_app, len_app, h1]; exact sz (by omega)) fun Gb sb => ej_cons (ev_fmtS (z := q.1) (ev_v (e4.mono (sa.trans sb))) (sz (by omega))) (by rw [emp_app, len_app, len_app, h1]; exact sz (by omega)) fun Gc sc => ej_cons ev_str (by rw [emp_app, len_app, len_app, len_app, h1, h2]; exact sz (by omega)) fun Gd sd => ej_cons (ev_fmtS (z := inW q.2) (ev_v (e4.mono (((sa.trans sb).trans sc).trans sd))) (sz (by omega))) (by rw [emp_app, len_app, len_app, len_app, len_app, h1, h2]; exact sz (by omega)) fun Ge se => ej_cons ev_str (by rw [emp_app, len_app, len_app, len_app, len_app, len_app, h1, h2, h3]; exact sz (by omega)) fun Gf sf => ej_nil)).is (by rw [emp_app]; rfl)
    have pG5 : G5 p = none := g5.fr p pG4 (by rw [hp4]; intro z; cases z)
    have g6 : Gr G H G5 (upd H5 p (.lst (acc ++ [v]))) := (g4.trans g5).mut hp pG5
    refine ⟨G5, (s1.trans gg4.gg).trans g5.gg, g6.gh, g6, pG5, _, upd_same, ?_, (have e := e4.mono g5.gg; e.pick e.nil)⟩
    rw [itWs_succ hq, List.map_append, ← List.append_assoc]
    exact dpa_app (dpa_mono (gg4.gg.trans g5.gg) _ _ z4) (dpa_one r5)
  · rintro σ' G' H' s1 s2 ⟨z1, z2, acc, z3, z4, z7⟩
    rw [hlen] at z4
    have e5 := Env.freezeL z7 z2 z4
    have g5 := z1.freeze hp z2 z3
    refine w_ret g5 (Ev.is (ev_orTL (ev_v e5) (ev_lst [.str "empty"] (ea_cons ev_str ea_nil) (sz (by show 1 ≤ 1000; decide)))) ?_) k
    unfold shownD wordsL
    rw [List.map_append, List.map_map]
    rfl
/-! __repr__ -/
abbrev s_repr : Stmt := inClass (top 19) 7
theorem sc_repr : FnScope ["self"] ["self"] (defScope s_repr) := ⟨rfl, rfl, rfl, by decide +kernel, rfl, by decide +kernel, by decide +kernel⟩
variable {C : Addr}
def sp_repr (K : Fg) (C : Addr) : Sp := spD (α := Raw) (fun r => [WebP K C r]) (fun r => TxtOk r) (fun r => D K (.str (textOf r)))
theorem ok_repr {f : Addr} {fd : FuncData} (F : Fun K "__repr__" "Web.__repr__" s_repr f fd) (T : Tx mg) (TC : CTx K C) (Dshown_words : Def P w K mg base "shown_words" 2 ["name_pairs", "item_pairs"] (sp_shown_words K)) : FnOk P w K mg base CX0 3 f fd ["self"] (sp_repr K C) := by
  refine fun_okD F sc_repr (fun _ => rfl) (fun cdv A outer s H E Q r G hr sm pr k => ?_)
  refine ⟨_, (pss_one (ps_ret (pe_join pe_str (pe_def Dshown_words hr (by rfl) (pa_cons (pe_fld (pv 0) rfl) (pa_cons (pe_fld (pv 0) rfl) pa_nil)))))), fun σ e => ?_⟩
  have pr : TxtOk r := pr
  by_cases h : wordsL r = []
  · refine w_ret (.refl sm) ((ev_join (ys := ["empty"]) ev_str (Ev.is (ev_call0 r (ea_cons (ev_fldN TC (ev_v e)) (ea_cons (ev_fldI TC (ev_v e)) ea_nil)) pr) (by unfold shownD; rw [h]; rfl)) (by decide)).is ?_) k
    rw [join_one]
    unfold textOf
    rw [if_pos h]
  · refine w_ret (.refl sm) ((ev_join (ys := wordsL r) ev_str (Ev.is (ev_call0 r (ea_cons (ev_fldN TC (ev_v e)) (ea_cons (ev_fldI TC (ev_v e)) ea_nil)) pr) (by unfold shownD; rw [if_neg (by simpa using h)])) (words_sum pr)).is ?_) k
    unfold textOf
    rw [if_neg h]
end
end K3
set_option Elab.async false
set_option linter.all false
set_option maxRecDepth 100000
set_option maxHeartbeats 1000000
namespace K3
open PySem L2 OB
/-! texts that may stand in data -/
theorem ok_app {a b : Str} (ha : PyData.strOk a = true) (hb : PyData.strOk b = true) : PyData.strOk (a ++ b) = true := by
  unfold PyData.strOk at ha hb ⊢
  show (a.cps ++ b.cps).all _ = true
  rw [Array.all_append, ha, hb]
  rfl
theorem ok_fold (z : Array Nat) (hz : z.all (· < 0x110000) = true) : ∀ (ps : List Str) (acc : Array Nat), acc.all (· < 0x110000) = true → (∀ p ∈ ps, PyData.strOk p = true) → (ps.foldl (fun acc p => acc ++ z ++ p.cps) acc).all (· < 0x110000) = true
  | [], acc, h, _ => h
  | p :: ps, acc, h, hp => by
    rw [List.foldl_cons]
    refine ok_fold z hz ps _ ?_ fun q hq => hp q (List.mem_cons_of_mem _ hq)
    have h2 : p.cps.all (· < 0x110000) = true := hp p List.mem_cons_self
    rw [Array.all_append, Array.all_append, h, hz, h2]
    rfl
theorem ok_join {z : Str} {ys : List Str} (hz : PyData.strOk z = true) (h : ∀ y ∈ ys, PyData.strOk y = true) : PyData.strOk (Txt.join z ys) = true := by
  cases ys with
  | nil => simp [Txt.join, Builtin.Str.glued, PyData.strOk, Str.empty]
  | cons y ys => exact ok_fold z.cps hz ys y.cps (h y List.mem_cons_self) fun q hq => h q (List.mem_cons_of_mem _ hq)
theorem num_ok : ∀ n : Fin 1000, PyData.strOk ((toString ((n.val : Nat) : Int) : Str)) = true := by decide +kernel
theorem str_ok {t : Int} (h1 : 0 ≤ t) (h2 : t < 1000) : PyData.strOk ((toString t : Str)) = true := by
  have := num_ok ⟨t.toNat, by omega⟩
  simp only at this
  rwa [Int.toNat_of_nonneg h1] at this
theorem mark_ok {t : Int} (h1 : -1 ≤ t) (h2 : t < 1000) : PyData.strOk (mark t) = true := by
  unfold mark
  split
  · decide +kernel
  · split
    · decide +kernel
    · exact str_ok (by omega) h2
theorem words_ok {r : Raw} (h : TxtOk r) (hr : RawS r) : ∀ y ∈ wordsL r, PyData.strOk y = true := fun y hy => by
  rcases List.mem_append.mp hy with hy | hy
  · obtain ⟨p, h1, rfl⟩ := List.mem_map.mp hy
    exact ok_app (ok_app (hr.1 p h1) (by decide +kernel)) (mark_ok (h.nm p h1).2.1 (h.nm p h1).2.2)
  · obtain ⟨k, h1, rfl⟩ := List.mem_map.mp hy
    have hk := List.mem_range.mp h1
    have hn := h.n2
    have hm := getD_mem (d := (("", []) : Item)) hk
    obtain ⟨b1, b2, b3⟩ := h.it _ hm
    unfold itW
    refine ok_app (ok_app (ok_app (ok_app (ok_app (str_ok (by omega) (by omega)) (by decide +kernel)) (hr.2 _ hm)) (by decide +kernel)) (ok_join (by decide +kernel) fun y hy => ?_)) (by decide +kernel)
    obtain ⟨t, ht, rfl⟩ := List.mem_map.mp hy
    exact mark_ok (b3 t ht).1 (b3 t ht).2
theorem text_ok {r : Raw} (h : TxtOk r) (hr : RawS r) : PyData.strOk (textOf r) = true := by
  unfold textOf
  split
  · decide +kernel
  · exact ok_join (by decide +kernel) (words_ok h hr)
theorem eqv_strs_nil (ys : List Str) : PyData.eqv (.list (ys.map PyData.str)) (.list []) = decide (ys = []) := by
  cases ys <;> simp [PyData.eqv, PyData.eqvAll]
section
variable {P : Program} {w : World} {K : Fg} {mg : Str → Option Value} {base : Heap} {σ : L2.St} {G H : Hp} {te ta tb : TE}
theorem ev_raw1 {r : Raw} (h : Ev ta σ G (D K (dRaw r))) : Ev (tOp (rIxT K) ta (tC (.int 0))) σ G (D K (dNames r.1)) := ev_ixT h ev_int rfl
theorem ev_raw2 {r : Raw} (h : Ev ta σ G (D K (dRaw r))) : Ev (tOp (rIxT K) ta (tC (.int 1))) σ G (D K (dItems r.2)) := ev_ixT h ev_int rfl
theorem atI_nat {α : Type} {l : List α} {j : Nat} {x : α} (h : l[j]? = some x) : atI l (j : Int) = some x := by
  obtain ⟨h1, h2⟩ := List.getElem?_eq_some_iff.mp h
  unfold atI
  have : ixN l.length (j : Int) = some j := by
    unfold ixN
    simp
    omega
  rw [this]
  exact h
abbrev n_text : List Str := ["_law_raw_here", "_law_words", "_law_name", "_law_target", "_law_k", "_law_word", "_law_targets", "_law_one"]
abbrev s_text : Stmt := top 40
theorem sc_text : FnScope n_text ["_law_raw_here"] (defScope s_text) := ⟨rfl, rfl, rfl, by decide +kernel, rfl, by decide +kernel, by decide +kernel⟩
def sp_text (K : Fg) : Sp := spD (α := Raw) (fun r => [D K (dRaw r)]) (fun r => TxtOk r ∧ RawS r) (fun r => D K (.str (textOf r)))
theorem ok_text (T : Tx mg) (F : Fd K mg "_law_text" s_text ["_law_raw_here"]) (D_law_mark : Def P w K mg base "_law_mark" 1 ["_law_target"] (sp_mark K)) : Def P w K mg base "_law_text" 2 ["_law_raw_here"] (sp_text K) := by
  have nd := sc_text.nd
  refine F.okD sc_text (fun _ => rfl) (fun f cdv A outer s H E Q r G hr sm pr k => ?_)
  have hu64 : (A.deeper (PyProof.Rows.envOfC "_law_text" (defScope s_text) s.heap.objs.size f cdv)).units + 64 < cLine := by have := hr.un; omega
  refine ⟨_, (pss_cons (ps_setLc (i := 1) (own := [("_law_name", 2), ("_law_target", 3)]) (g := (gTup K 2 (gCons (gName 2) (gCons (gName 3) gNil)))) rfl nd rfl rfl (sw_true rfl rfl rfl (by decide +kernel))  (pi_list (pe_ix ix_tup (pv 0) pe_int (fun _ _ => rfl))) (blkOk_by (by kernel_rfl)) (fun _ _ _ _ _ => (pg_tup rfl (pgs_cons (pg_name (i := 2) nd rfl (Or.inl rfl)) (pgs_cons (pg_name (i := 3) nd rfl (Or.inl rfl)) pgs_nil)))) (fun _ _ _ _ _ => pts_nil) (fun _ _ _ _ _ => (pe_op op_add_str (pe_op op_add_str (pv 2) pe_str) (pe_def D_law_mark hr (by rfl) (pa_cons (pv 3) pa_nil)))))
      (pss_cons (ps_for PassesOwn.never rfl (pi_range1 (by rfl) (T.nb' "range") (pa_cons (pe_callB call_len_seq (by rfl) (T.nb' "len") (by decide +kernel) (pa_cons (pe_ix ix_tup (pv 0) pe_int (fun _ _ => rfl)) pa_nil)) pa_nil)) (pg_name (i := 4) nd rfl (Or.inl rfl))
      (pss_cons (ps_asg (pe_ix ix_list (pe_ix ix_tup (pv 0) pe_int (fun _ _ => rfl)) (pv 4) (fun _ _ => rfl)) (pg_tup rfl (pgs_cons (pg_name (i := 5) nd rfl (Or.inl rfl)) (pgs_cons (pg_name (i := 6) nd rfl (Or.inl rfl)) pgs_nil))))
      (pss_one (ps_expr (pe_bm PySem.F.plainAttrs_list PySem.F.slot_list_append PySem.F.type_list_append mt_append (pv 1) (pa_cons (pe_op op_add_str (pe_op op_add_str (pe_op op_add_str (pe_op op_add_str (pe_op op_add_str (pe_callTy call_str_int (by rfl) (T.nb' "str") (by decide +kernel) (pa_cons (pe_op op_add (pv 4) pe_int) pa_nil)) pe_str) (pv 5)) pe_str) (pe_join pe_str (pe_lc (own := [("_law_one", 7)]) (g := (gName 7)) rfl nd (pi_tup (pv 6)) (blkOk_by (by kernel_rfl)) (fun _ _ _ _ _ => (pg_name (i := 7) nd rfl (Or.inl rfl))) (fun _ _ _ _ _ => pts_nil) (fun _ _ _ _ _ => (pe_def D_law_mark hr (by rfl) (pa_cons (pv 7) pa_nil)))))) pe_str) pa_nil))))))
      (pss_one (ps_ret (pe_ifExp (pt_cmpR (op_neD hu64) (pv 1) (pe_lst pa_nil) (nomark _)) (pe_join pe_str (pv 1)) pe_str))))), fun σ e => ?_⟩
  obtain ⟨pr, prs⟩ : TxtOk r ∧ RawS r := pr
  have sz : ∀ {m : Nat}, m ≤ 1000 → m ≤ sizeLine := fun h => sz8 h
  refine q_lcOwnB (l' := []) 1 2 3 r.1 (fun p => .str p.1) (fun p => .int p.2) (fun p => .str (nmW p)) (fun b c q1 q2 => by
      injection q1 with q1; injection q2 with q2; exact Prod.ext q1 q2) e (.refl sm) (by decide) (src_list (ev_raw1 (ev_v e))) (by have := pr.n1; omega) (fun k R q => by cases q) (by decide) (by decide) (by decide) (fun p σ2 G' hp _ e2 => ?_) fun p acc σ1 G1 H1 hp pG1 e1 g1 _ hpl hacc => ?_
  · have hb := pr.nm p hp
    have hm := mark_len hb.2.1 hb.2.2
    have h1 : (("=" : Str)).length = 1 := by decide
    exact ev_cat (ev_cat (ev_v e2) ev_str (by rw [h1]; exact sz (by omega))) (ev_call0 p.2 (ea_cons (ev_v e2) ea_nil) hb.2) (by rw [len_app, h1]; exact sz (by omega))
  refine q_forN g1.gh (src_rng (ev_lenL (ev_raw2 (ev_v e1))) (by omega) (by rw [List.length_map]; have := pr.n2; show ((r.2.length : Nat) : Int) < 2 ^ 62; omega)) fun G2 H2 g2 => ⟨fun j σ' G' H' => Gr G H G' H' ∧ G' p = none ∧ ∃ acc, H' p = some (.lst acc) ∧ DpAll K G' acc ((r.1.map fun p => .str (nmW p)) ++ (itWs r.2 j).map PyData.str) ∧ Env 8 G' σ' [(1, Rf p), (0, D K (dRaw r))], ?_, ?_, ?_⟩
  · exact ⟨g1.trans g2, g2.fr p pG1 (by rw [hpl]; intro z; cases z), acc, g2.hh _ _ hpl, by rw [show itWs r.2 0 = [] from rfl]; simpa using dpa_mono g2.gg _ _ hacc, (have e := e1.mono g2.gg; e.pick (e.pick e.nil))⟩
  · rintro j d v σ' G' H' hj s1 s2 hd ⟨g6, z2, acc, z3, z4, e6⟩
    have hjl : j < r.2.length := by
      obtain ⟨h1, _⟩ := List.getElem?_eq_some_iff.mp hj
      rw [rngD_len] at h1
      simpa using h1
    have ej : d = .int (j : Nat) := by
      rw [rngD_get (by simpa using hjl)] at hj
      exact (Option.some.inj hj).symm
    subst ej
    have hq : r.2[j]? = some r.2[j] := by simp [hjl]
    generalize r.2[j] = q at hq
    have hn2 := pr.n2
    obtain ⟨b1, b2, b3⟩ := pr.it q (List.mem_of_getElem? hq)
    have e7 := e6.set (i := 4) (R := D K (.int (j : Nat))) (by decide) hd
    refine q_tup2 5 6 (d1 := .str q.1) (d2 := tInts q.2) e7 g6 (ev_ixL (ev_raw2 (ev_v e7)) (ev_v e7) (atI_nat (by rw [List.getElem?_map, hq]; rfl))) (by decide) (by decide) fun σ8 G8 H8 e8 g8 gg8 => ?_
    have pG8 : G8 p = none := gg8.fr p z2 (by rw [z3]; intro z; cases z)
    have hp8 := gg8.hh _ _ z3
    have hlacc : acc.length ≤ 1000 := by
      rw [dpa_len z4]
      have := pr.n1
      simp only [List.length_append, List.length_map, itWs, List.length_range]
      omega
    have hil := inW_le b2 b3
    have hnl := str_len (t := (j : Int) + 1) (by omega) (by omega)
    have h1 : (((":" : Str)).length) = 1 := by decide
    have h2 : ((("(" : Str)).length) = 1 := by decide
    have h3 : (((")" : Str)).length) = 1 := by decide
    have h4 : ((("," : Str)).length) = 1 := by decide
    have hin : Ev _ σ8 G8 (D K (.str (inW q.2))) := ev_join (z := ",") (ys := q.2.map mark) ev_str (by
      rw [List.map_map]
      exact ev_lcI (j := 7) (fun t => .str (mark t)) (src_tup (ev_v (i := 6) e8)) (by omega) e8 [] lk0 (by decide) fun o σ2 G5 ho _ e5 => ev_call0 (pre := fun a : Int => -1 ≤ a ∧ a < 1000) (args := fun a : Int => [D K (.int a)]) (res := fun a : Int => D K (.str (mark a))) (E := E0) o (ea_cons (ev_v (i := 7) e5) ea_nil) (b3 o ho)) (by
      have := inW_len b2 b3
      rw [List.length_map, h4]
      omega)
    refine w_append e8 g8.gh rfl hp8 (Nat.lt_of_le_of_lt hlacc (by decide)) (R := D K (.str (itW j q))) ?_ fun v G5 H5 g5 r5 => ?_
    · exact (ev_cat (ev_cat (ev_cat (ev_cat (ev_cat (ev_strI (i := (j : Int) + 1) (ev_add (ev_v e8) ev_int) (log_small (by omega))) ev_str (by rw [h1]; exact sz (by omega))) (ev_v e8) (by rw [len_app, h1]; exact sz (by omega))) ev_str (by rw [len_app, len_app, h1, h2]; exact sz (by omega))) hin (by rw [len_app, len_app, len_app, h1, h2]; exact sz (by omega))) ev_str (by rw [len_app, len_app, len_app, len_app, h1, h2, h3]; exact sz (by omega))).is (by unfold itW; rw [Int.add_comm])
    have pG5 : G5 p = none := g5.fr p pG8 (by rw [hp8]; intro z; cases z)
    have g9 : Gr G H G5 (upd H5 p (.lst (acc ++ [v]))) := (g8.trans g5).mut hp pG5
    refine ⟨G5, (s1.trans gg8.gg).trans g5.gg, g9.gh, g9, pG5, _, upd_same, ?_, (have e := e8.mono g5.gg; e.pick (e.pick e.nil))⟩
    rw [itWs_succ hq, List.map_append, ← List.append_assoc]
    exact dpa_app (dpa_mono (gg8.gg.trans g5.gg) _ _ z4) (dpa_one r5)
  · rintro σ' G' H' s1 s2 ⟨z1, z2, acc, z3, z4, z7⟩
    have hlen : (rngD ((↑(List.map dIt r.2).length : Int)).toNat).length = r.2.length := by rw [rngD_len]; simp
    rw [hlen] at z4
    have e4 : (r.1.map fun p => PyData.str (nmW p)) ++ (itWs r.2 r.2.length).map PyData.str = (wordsL r).map PyData.str := by
      unfold wordsL
      rw [List.map_append, List.map_map]
      rfl
    rw [e4] at z4
    have e5 := Env.freezeL z7 z2 z4
    have g5 := z1.freeze hp z2 z3
    refine w_ret g5 (ev_if (et_test (Ev.is (ev_neD (ev_v e5) (ev_lst [] ea_nil (Nat.zero_le _)) (sh_list (n := 0) (sh_map fun y hy => sh_str (words_ok pr prs y hy))).ok (by decide)) (by rw [eqv_strs_nil]))) (fun hb => ?_) fun hb => ?_) k
    · refine (ev_join (ys := wordsL r) ev_str (ev_v e5) (words_sum pr)).is ?_
      unfold textOf
      rw [if_neg (by simpa using hb)]
    · refine ev_str.is ?_
      unfold textOf
      rw [if_pos (by simpa using hb)]
end
end K3
set_option Elab.async false
set_option linter.all false
set_option maxRecDepth 100000
set_option maxHeartbeats 1000000
namespace K3
open PySem L2 OB
theorem run_pref {adj : Int → List Int} {o : List Int} : ∀ {m n : Nat}, m ≤ n → ∃ s, run adj o n = run adj o m ++ s := by
  intro m n h
  induction n with
  | zero => rw [Nat.le_zero.mp h]; exact ⟨[], (List.append_nil _).symm⟩
  | succ n ih =>
    by_cases e : m = n + 1
    · rw [e]; exact ⟨[], (List.append_nil _).symm⟩
    · obtain ⟨s, hs⟩ := ih (by omega)
      obtain ⟨t, ht⟩ := stepAt_pre adj n (run adj o n)
      refine ⟨s ++ t, ?_⟩
      show stepAt adj n (run adj o n) = _
      rw [ht, hs, List.append_assoc]
theorem meetL_mem {t : Int} (h0 : 0 < t) : ∀ (ts o : List Int), t ∈ ts ∨ t ∈ o → t ∈ meetL o ts
  | [], o, h => by
    rcases h with h | h
    · cases h
    · exact h
  | x :: ts, o, h => by
    rw [meetL_cons]
    refine meetL_mem h0 ts _ ?_
    rcases h with h | h
    · rcases List.mem_cons.mp h with rfl | h
      · right
        unfold meet1
        split
        · simp
        · rename_i z
          by_cases q : t ∈ o
          · exact q
          · exact absurd ⟨h0, q⟩ z
      · exact .inl h
    · right
      obtain ⟨s, hs⟩ := meet1_pre o x
      rw [hs]
      exact List.mem_append_left _ h
theorem run_closed {adj : Int → List Int} {o : List Int} {N : Nat} (h : (run adj o N).length ≤ N) : ∀ x ∈ run adj o N, ∀ t ∈ adj x, 0 < t → t ∈ run adj o N := fun x hx t ht h0 => by
  obtain ⟨k, hk, rfl⟩ := List.mem_iff_getElem.mp hx
  have hkN : k < N := by omega
  obtain ⟨s, hs⟩ := run_pref (adj := adj) (o := o) (Nat.le_of_lt hkN)
  have hlk : k < (run adj o k).length := by
    refine Nat.lt_of_not_le fun z => ?_
    have := run_stop z (N - k)
    rw [show k + (N - k) = N by omega] at this
    rw [this] at hk
    omega
  have e : (run adj o k)[k]? = some (run adj o N)[k] := by
    rw [List.getElem?_eq_getElem hlk]
    congr 1
    simp only [hs]
    rw [List.getElem_append_left hlk]
  obtain ⟨s2, hs2⟩ := run_pref (adj := adj) (o := o) (show k + 1 ≤ N by omega)
  rw [hs2]
  refine List.mem_append_left _ ?_
  show t ∈ stepAt adj k (run adj o k)
  unfold stepAt
  rw [e]
  exact meetL_mem h0 _ _ (.inl ht)
/-! webs in their own order -/
structure Canon (r : Raw) : Prop where
  nm : NamesOk r.1
  it : ItemsOk r.1 r.2
  srt : r.1.Pairwise (fun p q => p.1.cps.toList ≤ q.1.cps.toList)
  ord : ordOf r.1 r.2 = upTo r.2.length
theorem inWeb_of {names : List Nm} {items : List Item} (nm : NamesOk names) (it : ItemsOk names items) : InWeb names items :=
  ⟨by have := nm.len; omega, by have := it.len; omega, fun p hp => isTgt_iff.mp (it.nt p hp), fun q hq => by
    obtain ⟨h1, h2, h3⟩ := it.it q hq
    refine ⟨by omega, fun t ht => ?_⟩
    unfold itemOk at h1
    simp only [Bool.and_eq_true, List.all_eq_true] at h1
    exact isTgt_iff.mp (h1.2 t ht)⟩
theorem itemOk_map {q : Item} {n m : Nat} {F : Int → Int} (h : itemOk q (n : Nat) = true) (hF : ∀ t ∈ q.2, -1 ≤ F t ∧ F t ≤ (m : Int)) : itemOk (q.1, q.2.map F) (m : Nat) = true := by
  unfold itemOk at h ⊢
  simp only [Bool.and_eq_true, List.length_map] at h ⊢
  refine ⟨h.1, ?_⟩
  rw [List.all_eq_true]
  intro t ht
  obtain ⟨u, hu, rfl⟩ := List.mem_map.mp ht
  exact isTgt_iff.mpr (hF u hu)
theorem adj_it {items : List Item} {x : Int} (h1 : 1 ≤ x) (h2 : x ≤ (items.length : Int)) : adjOf items x = (itOf items x).2 ∧ itOf items x ∈ items := by
  have hk : (x - 1).toNat < items.length := by omega
  unfold adjOf itOf
  rw [List.getElem?_eq_getElem hk, List.getD_eq_getElem?_getD, List.getElem?_eq_getElem hk]
  exact ⟨rfl, List.getElem_mem hk⟩
theorem names_perm {names ms : List Nm} {F : Int → Int} (nm : NamesOk names) (S : ms.Perm names) : NamesOk (ms.map fun p => (p.1, F p.2)) := by
  refine ⟨by rw [List.length_map, S.length_eq]; exact nm.len, fun p hp => ?_, ?_⟩
  · obtain ⟨q, hq, rfl⟩ := List.mem_map.mp hp
    exact nm.wd q (S.mem_iff.mp hq)
  · rw [List.map_map]
    show (ms.map fun p => p.1).Nodup
    exact (S.map (fun p : Nm => p.1)).nodup_iff.mpr nm.nd
theorem canon_of {names : List Nm} {items : List Item} {r : Raw} (nm : NamesOk names) (it : ItemsOk names items) (M : Made names items r) : Canon r ∧ r.1.length = names.length ∧ r.2.length ≤ items.length := by
  obtain ⟨ms, f, S, N, e1, e2⟩ := M.ex
  have W := inWeb_of nm it
  have oin := in_run W S items.length
  have ond := nd_run (ms := ms) (items := items) items.length
  have olen := len_le ond oin
  have ocl := run_closed (adj := adjOf items) (o := first ms) olen
  let F : Int → Int := fun t => (f t).getD 0
  let o := ordOf ms items
  have F0 : F 0 = 0 := by show (f 0).getD 0 = 0; rw [N.1]; rfl
  have F1 : F (-1) = -1 := by show (f (-1)).getD 0 = -1; rw [N.2.1]; rfl
  have Fk : ∀ (k : Nat) (x : Int), o[k]? = some x → F x = (k : Int) + 1 := fun k x h => by show (f x).getD 0 = _; rw [N.2.2 k x h]; rfl
  let Pp : Int → Prop := fun x => x = 0 ∨ x = -1 ∨ x ∈ o
  have Fp : ∀ x, x ∈ o → ∃ k : Nat, k < o.length ∧ o[k]? = some x ∧ F x = (k : Int) + 1 := fun x h => by
    obtain ⟨k, hk, rfl⟩ := List.mem_iff_getElem.mp h
    have e : o[k]? = some o[k] := by simp [hk]
    exact ⟨k, hk, e, Fk k _ e⟩
  have Fb : ∀ x, Pp x → -1 ≤ F x ∧ F x ≤ (o.length : Int) := fun x h => by
    rcases h with rfl | rfl | h
    · rw [F0]; omega
    · rw [F1]; omega
    · obtain ⟨k, hk, _, e⟩ := Fp x h
      rw [e]; omega
  have inj : ∀ x y, Pp x → Pp y → F x = F y → x = y := fun x y hx hy e => by
    rcases hx with rfl | rfl | hx <;> rcases hy with rfl | rfl | hy
    · rfl
    · rw [F0, F1] at e; omega
    · obtain ⟨k, _, _, q⟩ := Fp y hy
      rw [F0, q] at e; omega
    · rw [F0, F1] at e; omega
    · rfl
    · obtain ⟨k, _, _, q⟩ := Fp y hy
      rw [F1, q] at e; omega
    · obtain ⟨k, _, _, q⟩ := Fp x hx
      rw [F0, q] at e; omega
    · obtain ⟨k, _, _, q⟩ := Fp x hx
      rw [F1, q] at e; omega
    · obtain ⟨k, _, q1, q⟩ := Fp x hx
      obtain ⟨m, _, q2, q'⟩ := Fp y hy
      rw [q, q'] at e
      have : k = m := by omega
      subst this
      rw [q1] at q2
      exact Option.some.inj q2
  have pos : ∀ x, Pp x → (0 < F x ↔ 0 < x) := fun x h => by
    rcases h with rfl | rfl | h
    · rw [F0]
    · rw [F1]
    · obtain ⟨k, _, _, q⟩ := Fp x h
      have := oin x h
      rw [q]; omega
  have tP : ∀ t : Int, -1 ≤ t → (0 < t → t ∈ o) → Pp t := fun t h1 h2 => by
    by_cases h0 : t = 0
    · exact .inl h0
    · by_cases h3 : t = -1
      · exact .inr (.inl h3)
      · exact .inr (.inr (h2 (by omega)))
  have hit : ∀ x ∈ o, ∀ t ∈ (itOf items x).2, Pp t := fun x hx t ht => by
    have hb := oin x hx
    obtain ⟨a1, a2⟩ := adj_it hb.1 hb.2
    exact tP t ((W.it _ a2).2 t ht).1 fun h0 => ocl x hx t (by rw [a1]; exact ht) h0
  have hfirst : ∀ x ∈ first ms, x ∈ o := fun x hx => by
    obtain ⟨s, hs⟩ := run_pre (adjOf items) (first ms) items.length
    show x ∈ run (adjOf items) (first ms) items.length
    rw [hs]
    exact List.mem_append_left _ hx
  have hnm : ∀ p ∈ ms, Pp p.2 := fun p hp => tP p.2 (W.nt p (S.1.mem_iff.mp hp)).1 fun h0 => hfirst _ (meetL_mem h0 _ _ (.inl (List.mem_map_of_mem hp)))
  have hl2 : r.2.length = o.length := by rw [e2, List.length_map]
  have e1' : r.1 = ms.map fun p => (p.1, F p.2) := e1
  have f1 : first r.1 = (first ms).map F := by
    unfold first
    rw [e1', List.map_map]
    have := meetL_map inj pos (ms.map (·.2)) (o := []) (by simp) fun t ht => by
      obtain ⟨p, hp, rfl⟩ := List.mem_map.mp ht
      exact hnm p hp
    rw [List.map_map] at this
    exact this
  have hadj : ∀ x, Pp x → 0 < x → adjOf r.2 (F x) = (adjOf items x).map F := fun x hx h0 => by
    have hx' : x ∈ o := by
      rcases hx with rfl | rfl | h
      · omega
      · omega
      · exact h
    obtain ⟨k, hk, q1, q⟩ := Fp x hx'
    have hb := oin x hx'
    obtain ⟨a1, a2⟩ := adj_it hb.1 hb.2
    rw [a1, q]
    unfold adjOf
    rw [show (((k : Int) + 1) - 1).toNat = k by omega, e2, List.getElem?_map]
    rw [show (ordOf ms items)[k]? = some x from q1]
    rfl
  have rm := run_map (f := F) (P := Pp) inj pos (adj := adjOf items) (adj' := adjOf r.2) (o := first ms) (fun x hx => ⟨.inr (.inr (hfirst x hx)), by have := in_first W S x hx; omega⟩) (fun x hx h0 t ht => by
    have hx' : x ∈ o := by
      rcases hx with rfl | rfl | h
      · omega
      · omega
      · exact h
    have hb := oin x hx'
    obtain ⟨a1, a2⟩ := adj_it hb.1 hb.2
    rw [a1] at ht
    exact hit x hx' t ht) hadj
  have rN : run (adjOf items) (first ms) o.length = o := by
    have h1 := run_len_mono (adj := adjOf items) (o := first ms) olen
    have := run_stop (adj := adjOf items) (o := first ms) (m := o.length) h1 (items.length - o.length)
    rw [show o.length + (items.length - o.length) = items.length by have : o.length ≤ items.length := olen; omega] at this
    exact this.symm
  have hord : ordOf r.1 r.2 = upTo r.2.length := by
    unfold ordOf
    rw [f1, hl2, rm, rN]
    apply List.ext_getElem?
    intro k
    rw [List.getElem?_map]
    by_cases hk : k < o.length
    · rw [upTo_get hk]
      have e : o[k]? = some o[k] := by simp [hk]
      rw [e]
      show some (F o[k]) = _
      rw [Fk k _ e]
    · rw [List.getElem?_eq_none (by omega), List.getElem?_eq_none (by rw [upTo_len]; omega)]
      rfl
  have hnl : r.1.length = names.length := by rw [e1', List.length_map, S.1.length_eq]
  refine ⟨⟨by rw [e1']; exact names_perm nm S.1, ⟨?_, ?_, ?_, by rw [hnl]; exact it.nl⟩, ?_, hord⟩, hnl, by rw [hl2]; exact olen⟩
  · have := it.len
    have : o.length ≤ items.length := olen
    omega
  · intro q hq
    rw [e2] at hq
    obtain ⟨x, hx, rfl⟩ := List.mem_map.mp hq
    have hb := oin x hx
    obtain ⟨a1, a2⟩ := adj_it hb.1 hb.2
    obtain ⟨i1, i2, i3⟩ := it.it _ a2
    refine ⟨?_, i2, by rw [List.length_map]; exact i3⟩
    rw [hl2]
    exact itemOk_map i1 fun t ht => Fb t (hit x hx t ht)
  · intro p hp
    rw [e1'] at hp
    obtain ⟨q, hq, rfl⟩ := List.mem_map.mp hp
    rw [hl2]
    exact isTgt_iff.mpr (Fb q.2 (hnm q hq))
  · rw [e1', List.pairwise_map]
    exact S.2
/-! other numbers for the same web -/
structure TurnF (g : Int → Int) (n : Nat) : Prop where
  g0 : g 0 = 0
  g1 : g (-1) = -1
  rng : ∀ x, 1 ≤ x → x ≤ (n : Int) → 1 ≤ g x ∧ g x ≤ (n : Int)
  inj : ∀ x y, 1 ≤ x → x ≤ (n : Int) → 1 ≤ y → y ≤ (n : Int) → g x = g y → x = y
theorem TurnF.all {g : Int → Int} {n : Nat} (T : TurnF g n) {j : Nat} (hj : j < n) : ∃ k, k < n ∧ g ((k : Int) + 1) = (j : Int) + 1 := by
  have hn : ((upTo n).map g).Nodup := by
    unfold List.Nodup
    rw [List.pairwise_map]
    refine (nd_upTo n).imp_of_mem fun {a b} ha hb h z => h (T.inj a b (mem_upTo.mp ha).1 (mem_upTo.mp ha).2 (mem_upTo.mp hb).1 (mem_upTo.mp hb).2 z)
  have := all_in hn (n := n) (fun x hx => by
    obtain ⟨y, hy, rfl⟩ := List.mem_map.mp hx
    exact T.rng y (mem_upTo.mp hy).1 (mem_upTo.mp hy).2) (by rw [List.length_map, upTo_len]) (t := (j : Int) + 1) (by omega) (by omega)
  obtain ⟨y, hy, e⟩ := List.mem_map.mp this
  have hb := mem_upTo.mp hy
  exact ⟨(y - 1).toNat, by omega, by rw [show (((y - 1).toNat : Nat) : Int) + 1 = y by omega]; exact e⟩
theorem turned_made {r : Raw} (C : Canon r) {g : Int → Int} (T : TurnF g r.2.length) {names : List Nm} {items : List Item} (hn : names.Perm (r.1.map fun p => (p.1, g p.2))) (hl : items.length = r.2.length)
    (hit : ∀ (k : Nat) q, r.2[k]? = some q → items[(g ((k : Int) + 1) - 1).toNat]? = some (q.1, q.2.map g)) : WebOk names items ∧ ∀ r', Made names items r' → r' = r := by
  have W := inWeb_of C.nm C.it
  let Pp : Int → Prop := fun x => x = 0 ∨ x = -1 ∨ (1 ≤ x ∧ x ≤ (r.2.length : Int))
  have inj : ∀ x y, Pp x → Pp y → g x = g y → x = y := fun x y hx hy e => by
    rcases hx with rfl | rfl | hx <;> rcases hy with rfl | rfl | hy
    · rfl
    · rw [T.g0, T.g1] at e; omega
    · have := T.rng y hy.1 hy.2
      rw [T.g0] at e; omega
    · rw [T.g0, T.g1] at e; omega
    · rfl
    · have := T.rng y hy.1 hy.2
      rw [T.g1] at e; omega
    · have := T.rng x hx.1 hx.2
      rw [T.g0] at e; omega
    · have := T.rng x hx.1 hx.2
      rw [T.g1] at e; omega
    · exact T.inj x y hx.1 hx.2 hy.1 hy.2 e
  have pos : ∀ x, Pp x → (0 < g x ↔ 0 < x) := fun x h => by
    rcases h with rfl | rfl | h
    · rw [T.g0]
    · rw [T.g1]
    · have := T.rng x h.1 h.2
      omega
  have gb : ∀ x, Pp x → -1 ≤ g x ∧ g x ≤ (r.2.length : Int) := fun x h => by
    rcases h with rfl | rfl | h
    · rw [T.g0]; omega
    · rw [T.g1]; omega
    · have := T.rng x h.1 h.2
      omega
  have tP : ∀ t : Int, -1 ≤ t → t ≤ (r.2.length : Int) → Pp t := fun t h1 h2 => by
    by_cases h0 : t = 0
    · exact .inl h0
    · by_cases h3 : t = -1
      · exact .inr (.inl h3)
      · exact .inr (.inr ⟨by omega, h2⟩)
  have hnP : ∀ p ∈ r.1, Pp p.2 := fun p hp => tP p.2 (W.nt p hp).1 (W.nt p hp).2
  have S0 : SrtN names (r.1.map fun p => (p.1, g p.2)) := ⟨hn.symm, by rw [List.pairwise_map]; exact C.srt⟩
  have nmok : NamesOk names := by
    have h1 := names_perm (F := g) C.nm (List.Perm.refl r.1)
    have h2 := names_perm (F := id) h1 hn
    rw [show (names.map fun p : Nm => (p.1, id p.2)) = names from by simp] at h2
    exact h2
  have one : ∀ ms, SrtN names ms → ms = r.1.map fun p => (p.1, g p.2) := fun ms S => srt_one nmok.nd S S0
  have S1 : SrtN r.1 r.1 := ⟨List.Perm.refl _, C.srt⟩
  have f1 : first (r.1.map fun p => (p.1, g p.2)) = (first r.1).map g := by
    unfold first
    rw [List.map_map]
    have := meetL_map inj pos (r.1.map (·.2)) (o := []) (by simp) fun t ht => by
      obtain ⟨p, hp, rfl⟩ := List.mem_map.mp ht
      exact hnP p hp
    rw [List.map_map] at this
    exact this
  have hadj : ∀ x, Pp x → 0 < x → adjOf items (g x) = (adjOf r.2 x).map g := fun x hx h0 => by
    have hb : 1 ≤ x ∧ x ≤ (r.2.length : Int) := by
      rcases hx with rfl | rfl | h
      · omega
      · omega
      · exact h
    have hk : (x - 1).toNat < r.2.length := by omega
    have e := List.getElem?_eq_getElem hk
    have := hit _ _ e
    rw [show (((x - 1).toNat : Nat) : Int) + 1 = x by omega] at this
    unfold adjOf
    rw [this, e]
  have rm := run_map (f := g) (P := Pp) inj pos (adj := adjOf r.2) (adj' := adjOf items) (o := first r.1) (fun x hx => by
    have := in_first W S1 x hx
    exact ⟨.inr (.inr this), by omega⟩) (fun x hx h0 t ht => by
    have hb : 1 ≤ x ∧ x ≤ (r.2.length : Int) := by
      rcases hx with rfl | rfl | h
      · omega
      · omega
      · exact h
    obtain ⟨a1, a2⟩ := adj_it hb.1 hb.2
    rw [a1] at ht
    have := (W.it _ a2).2 t ht
    exact tP t this.1 this.2) hadj
  have hord : ∀ ms, SrtN names ms → ordOf ms items = (upTo r.2.length).map g := fun ms S => by
    rw [one ms S]
    unfold ordOf
    rw [f1, hl, rm]
    have := C.ord
    unfold ordOf at this
    rw [this]
  have itok : ItemsOk names items := by
    refine ⟨by rw [hl]; exact C.it.len, fun q hq => ?_, fun p hp => ?_, nmok.len⟩
    · obtain ⟨j, hj, rfl⟩ := List.mem_iff_getElem.mp hq
      obtain ⟨k, hk, e⟩ := T.all (j := j) (by omega)
      have e2 := hit k _ (List.getElem?_eq_getElem hk)
      rw [e, show (((j : Int) + 1) - 1).toNat = j by omega, List.getElem?_eq_getElem hj] at e2
      have e3 := Option.some.inj e2
      rw [e3]
      obtain ⟨i1, i2, i3⟩ := C.it.it _ (List.getElem_mem hk)
      refine ⟨?_, i2, by rw [List.length_map]; exact i3⟩
      rw [hl]
      refine itemOk_map i1 fun t ht => ?_
      have := (W.it _ (List.getElem_mem hk)).2 t ht
      exact gb t (tP t this.1 this.2)
    · obtain ⟨q, hq, rfl⟩ := List.mem_map.mp (hn.mem_iff.mp hp)
      rw [hl]
      exact isTgt_iff.mpr (gb q.2 (hnP q hq))
  refine ⟨⟨nmok, itok, fun ms S => by rw [hord ms S, List.length_map, upTo_len, hl]⟩, fun r' M => ?_⟩
  obtain ⟨ms, f, S, N, e1, e2⟩ := M.ex
  rw [hord ms S] at N e2
  rw [one ms S] at e1
  have back : ∀ x, Pp x → (f (g x)).getD 0 = x := fun x hx => by
    rcases hx with rfl | rfl | hx
    · rw [T.g0, N.1]; rfl
    · rw [T.g1, N.2.1]; rfl
    · have hk : (x - 1).toNat < r.2.length := by omega
      have := N.2.2 (x - 1).toNat (g x) (by
        rw [List.getElem?_map, upTo_get hk, show (((x - 1).toNat : Nat) : Int) + 1 = x by omega]
        rfl)
      rw [this]
      show (((x - 1).toNat : Nat) : Int) + 1 = x
      omega
  refine Prod.ext ?_ ?_
  · rw [e1, List.map_map]
    have : r.1.map ((fun p : Nm => (p.1, (f p.2).getD 0)) ∘ fun p => (p.1, g p.2)) = r.1.map id := List.map_congr_left fun p hp => by
      show (p.1, (f (g p.2)).getD 0) = p
      rw [back _ (hnP p hp)]
    rw [this, List.map_id]
  · rw [e2, List.map_map]
    apply List.ext_getElem?
    intro k
    rw [List.getElem?_map]
    by_cases hk : k < r.2.length
    · have e := List.getElem?_eq_getElem hk
      rw [upTo_get hk, e]
      have h3 := hit k _ e
      have h4 : itOf items (g ((k : Int) + 1)) = (r.2[k].1, r.2[k].2.map g) := getD_of h3
      show some ((itOf items (g ((k : Int) + 1))).1, (itOf items (g ((k : Int) + 1))).2.map fun t => (f t).getD 0) = _
      rw [h4]
      congr 1
      refine Prod.ext rfl ?_
      show (r.2[k].2.map g).map (fun t => (f t).getD 0) = r.2[k].2
      rw [List.map_map]
      have : r.2[k].2.map ((fun t => (f t).getD 0) ∘ g) = r.2[k].2.map id := List.map_congr_left fun t ht => by
        have := (W.it _ (List.getElem_mem hk)).2 t ht
        exact back t (tP t this.1 this.2)
      rw [this, List.map_id]
    · rw [List.getElem?_eq_none (by rw [upTo_len]; omega), List.getElem?_eq_none (by omega)]
      rfl
/-! what follows of a web in order -/
theorem small_ok {z : Str} (h : smallB z = true) : PyData.strOk z = true := by
  unfold smallB at h
  rw [List.all_eq_true] at h
  have key : ∀ c ∈ abc.cps.toList, c < 0x110000 := by decide +kernel
  unfold PyData.strOk
  rw [Array.all_eq_true_iff_forall_mem]
  intro c hc
  exact decide_eq_true (key c (of_decide_eq_true (h c (Array.mem_toList_iff.mpr hc))))
theorem word_ok {z : Str} {a b : Int} (h : isWord z a b = true) : PyData.strOk z = true := by
  unfold isWord at h
  simp only [Bool.and_eq_true] at h
  exact small_ok h.2
theorem Canon.rawS {r : Raw} (C : Canon r) : RawS r := ⟨fun p hp => word_ok (C.nm.wd p hp).1, fun q hq => by
  have := (C.it.it q hq).1
  unfold itemOk at this
  simp only [Bool.and_eq_true] at this
  exact word_ok this.1.1.1⟩
theorem Canon.txt {r : Raw} (C : Canon r) : TxtOk r := by
  have W := inWeb_of C.nm C.it
  have hl := C.it.len
  refine ⟨C.nm.len, hl, fun p hp => ⟨(C.nm.wd p hp).2, (W.nt p hp).1, by have := (W.nt p hp).2; omega⟩, fun q hq => ⟨(C.it.it q hq).2.1, (C.it.it q hq).2.2, fun t ht => ?_⟩⟩
  have := (W.it q hq).2 t ht
  omega
theorem canon_nil : Canon ([], []) := ⟨⟨by decide, by simp, by simp⟩, ⟨by decide, by simp, by simp, by decide⟩, by simp, by decide⟩
end K3
set_option Elab.async false
set_option linter.all false
set_option maxRecDepth 100000
set_option maxHeartbeats 400000
namespace OB
open PySem PySem.Spec PyProof.Rows L2
theorem rise_le : ∀ (l : List Str) (p : Str), risingS p l = true → (∀ x ∈ l, p.cps.toList ≤ x.cps.toList) ∧ l.Pairwise (fun a b => a.cps.toList ≤ b.cps.toList)
  | [], _, _ => And.intro (fun _ h => by cases h) List.Pairwise.nil
  | x :: r, p, h => by
    have h' : (!ltCps x.cps.toList p.cps.toList && risingS x r) = true := h
    rw [Bool.and_eq_true, ltCps_eq] at h'
    obtain ⟨h1, h2⟩ := h'
    have h1 : p.cps.toList ≤ x.cps.toList := by
      have : ¬ x.cps.toList < p.cps.toList := by simpa using h1
      exact List.not_lt.mp this
    obtain ⟨h3, h4⟩ := rise_le r x h2
    refine ⟨fun y hy => ?_, .cons h3 h4⟩
    rcases List.mem_cons.mp hy with rfl | hy
    · exact h1
    · exact List.le_trans h1 (h3 y hy)
theorem sorted_le {l : List Str} (h : sortedS l = true) : l.Pairwise (fun a b => a.cps.toList ≤ b.cps.toList) := by
  cases l with
  | nil => exact List.Pairwise.nil
  | cons x r =>
    obtain ⟨a, b⟩ := rise_le r x h
    exact .cons a b
def rSortedD : List V → Hp → VK → Prop := fun xs H Q => ∃ (d : Addr) (kvs : List (Key × V)) (ks : List Str), xs = [.ref d] ∧ Rd H d (.dK kvs) ∧ kvs.map (·.1) = ks.map Sum.inr ∧ ks.length < 64 ∧
    ∀ out p, List.Perm out ks → sortedS out = true → H p = none → Q (.ref p) (upd H p (.lst (out.map V.str)))
theorem kSortedD {X : Cx} (hc : X.calm = true) : CallR X (.builtin "sorted") rSortedD := call_sortedD hc
def rLenD : List V → Hp → VK → Prop := fun xs H Q => ∃ d kvs, xs = [V.ref d] ∧ H d = some (.dK kvs) ∧ Q (.int kvs.length) H
theorem kLenD {X : Cx} : CallR X (.builtin "len") rLenD := call_lenD
section
variable {K : Fg} {σ : L2.St} {G G1 H : Hp} {te ta tb tc : TE} {R A B : Pr} {d e : PyData} {n i j : Nat} {l : List (Nat × Pr)} {Dn : Ends} {G0 H0 : Hp} {t u v : TS} {tt : TT}
theorem ev_sortedD {ns : List Str} {f : Key → Option PyData} (h : Ev te σ G (DicP K (ns.map Sum.inr) f)) (hn : ns.length < 64) : Ev (tCB rSortedD (tCons te tNil)) σ G (PrE (fun ys : List Str => ys.Perm ns ∧ ys.Pairwise (fun a b => a.cps.toList ≤ b.cps.toList)) fun ys => D K (.list (ys.map .str))) :=
  ev_cb (ea_cons h ea_nil) fun vs G1 _ a H s Q q => by
    match vs, a with
    | [v], ⟨r, _⟩ =>
      obtain ⟨p, kvs, rfl, hp, hk⟩ := r
      refine ⟨p, kvs, ns, rfl, .inl (s _ _ hp), hk.1, hn, fun ys p' pm so hp' => ?_⟩
      have ga := Gr.alloc (o := .lst (ys.map V.str)) s hp'
      exact q _ _ _ ga ⟨ys, ⟨pm, sorted_le so⟩, .lst (SqL.of upd_same) (dpa_strs ys)⟩
theorem ev_lenDK {ks : List Key} {f : Key → Option PyData} (h : Ev te σ G (DicP K ks f)) : Ev (tCB rLenD (tCons te tNil)) σ G (D K (.int (ks.length : Nat))) :=
  ev_cb (ea_cons h ea_nil) fun vs G1 _ a H s Q q => by
    match vs, a with
    | [v], ⟨r, _⟩ =>
      obtain ⟨p, kvs, rfl, hp, hk⟩ := r
      exact ⟨p, kvs, rfl, s _ _ hp, q _ G1 H (.refl s) (by rw [hk.len]; exact .int _)⟩
theorem inV_int (t : Int) (ns : List Int) : inV (.int t) (ns.map V.int) = decide (t ∈ ns) := by
  unfold inV
  induction ns with
  | nil => rfl
  | cons n ns ih =>
    rw [List.map_cons, List.any_cons, ih]
    by_cases h : n = t
    · subst h; simp [eqV]
    · have : ¬ t = n := fun z => h z.symm
      simp [eqV, h, this]
theorem inV_str (t : Str) (ns : List Str) : inV (.str t) (ns.map V.str) = decide (t ∈ ns) := by
  unfold inV
  induction ns with
  | nil => rfl
  | cons n ns ih =>
    rw [List.map_cons, List.any_cons, ih]
    by_cases h : n = t
    · subst h; simp [eqV]
    · have : ¬ t = n := fun z => h z.symm
      simp [eqV, h, this]
theorem ev_niI {x : Int} {ns : List Int} (ha : Ev ta σ G (D K (.int x))) (hb : Ev tb σ G (D K (.list (ns.map .int)))) : Ev (tOp (rIn K true) ta tb) σ G (D K (.bool (!decide (x ∈ ns)))) :=
  ev_op ha hb fun v w G1 _ hx hy => by
    cases dp_int hx
    obtain ⟨a, xs, rfl, hs, hd⟩ := dp_lst hy
    have := dpa_is_ints hd
    subst this
    refine .flat (z := .bl (!decide (x ∈ ns))) (fun H Q s q => ⟨a, _, rfl, .inl (s.seq hs), rfl, by rw [List.all_map]; exact List.all_eq_true.mpr fun _ _ => rfl, ?_⟩) (.bl _)
    rw [inV_int]
    exact q
theorem ev_inL {neg : Bool} {x : Str} {ns : List Str} (ha : Ev ta σ G (D K (.str x))) (hb : Ev tb σ G (D K (.list (ns.map .str)))) : Ev (tOp (rIn K neg) ta tb) σ G (D K (.bool (if neg then !decide (x ∈ ns) else decide (x ∈ ns)))) :=
  ev_op ha hb fun v w G1 _ hx hy => by
    cases dp_str hx
    obtain ⟨a, xs, rfl, hs, hd⟩ := dp_lst hy
    have := dpa_is_strs hd
    subst this
    refine .flat (z := .bl (if neg then !decide (x ∈ ns) else decide (x ∈ ns))) (fun H Q s q => ⟨a, _, rfl, .inl (s.seq hs), rfl, by rw [List.all_map]; exact List.all_eq_true.mpr fun _ _ => rfl, ?_⟩) (.bl _)
    rw [inV_str]
    exact q
theorem addK_new {kvs : List (Key × V)} {ks : List Key} {f : Key → Option PyData} {k : Key} (h : DicAt K G kvs ks f) (hk : f k = none) : addK ks k = ks ++ [k] := by
  have h1 := (h.2 k).isSome
  rw [hk] at h1
  unfold addK
  rw [← h.1, List.any_map]
  have e : (kvs.any ((fun j => decide (j = k)) ∘ fun x => x.1)) = kvs.any fun kv => decide (kv.1 = k) := rfl
  rw [e, valV_any, h1]
  rfl
theorem addK_old {kvs : List (Key × V)} {ks : List Key} {f : Key → Option PyData} {k : Key} (h : DicAt K G kvs ks f) (hk : f k = some d) : addK ks k = ks := by
  have h1 := (h.2 k).isSome
  rw [hk] at h1
  unfold addK
  rw [← h.1, List.any_map]
  have e : (kvs.any ((fun j => decide (j = k)) ∘ fun x => x.1)) = kvs.any fun kv => decide (kv.1 = k) := rfl
  rw [e, valV_any, h1]
  rfl
theorem DicAt.putN {kvs : List (Key × V)} {ks : List Key} {f : Key → Option PyData} {k : Key} {v : V} (h : DicAt K G kvs ks f) (hk : f k = none) (hv : Dp K G v d) : DicAt K G (putK kvs k v) (ks ++ [k]) (putF f k d) := addK_new h hk ▸ h.put hv
theorem DicAt.putO {kvs : List (Key × V)} {ks : List Key} {f : Key → Option PyData} {k : Key} {v : V} (h : DicAt K G kvs ks f) (hk : f k = some e) (hv : Dp K G v d) : DicAt K G (putK kvs k v) ks (putF f k d) := by
  have := h.put (k := k) hv
  rw [addK_old h hk] at this
  exact this
theorem q_forNE {α : Type} {P : α → Prop} {ds : α → List PyData} {wi : TI} {tb : TS} (sm : Same G H) (hs : SrcE K wi σ G P ds)
    (hb : ∀ a, P a → ∀ G1 H1, Gr G H G1 H1 → ∃ Iv : Nat → L2.St → Hp → Hp → Prop, Iv 0 σ G1 H1 ∧ (∀ (k : Nat) d v σ' G' H', (ds a)[k]? = some d → Same G1 G' → Same G' H' → Dp K G' v d → Iv k σ' G' H' →
      tb { Dn with nx := Nx G1 Iv (k + 1), ct := Nx G1 Iv (k + 1), bk := u Dn } (σ'.set j (some v)) H') ∧ (∀ σ' G' H', Same G1 G' → Same G' H' → Iv (ds a).length σ' G' H' → u Dn σ' H')) : tSeq (tFor wi (gName j) tb) u Dn σ H := w_forNE (Dn := { Dn with nx := u Dn }) sm hs hb
/-- over a tuple that is found by looking into what is ours -/
theorem w_forTupAt {tb : TS} {ds : List PyData} (sm : Same G H) (h : ∀ Q : VK, (∀ a xs, SqT K G a xs → DpAll K G xs ds → Q (.ref a) H) → te σ H Q)
    (hb : ∀ G1 H1, Gr G H G1 H1 → ∃ Iv : Nat → L2.St → Hp → Hp → Prop, Iv 0 σ G1 H1 ∧ (∀ (k : Nat) d v σ' G' H', ds[k]? = some d → Same G1 G' → Same G' H' → Dp K G' v d → Iv k σ' G' H' →
      tb { Dn with nx := Nx G1 Iv (k + 1), ct := Nx G1 Iv (k + 1), bk := Dn.nx } (σ'.set j (some v)) H') ∧ (∀ σ' G' H', Same G1 G' → Same G' H' → Iv ds.length σ' G' H' → Dn.nx σ' H')) : tFor (iTup K te) (gName j) tb Dn σ H :=
  h _ fun a xs hs hd => ⟨a, rfl, ⟨xs, sm_t sm hs⟩, (w_forN (Dn := Dn) (wi := fun _ H R => R _ H) (j := j) (tb := tb) sm (src_here (σ := σ) hd (by
    rw [← dpa_len hd]
    exact walk_tup.mono (fun H s => sm_t s hs) fun _ _ _ _ _ _ y => y)) hb)⟩
end
end OB
set_option Elab.async false
set_option linter.all false
set_option maxRecDepth 100000
set_option maxHeartbeats 1000000
namespace K3
open PySem L2 OB
/-! names and points as dicts -/
def LeadF (ns : List Nm) : Key → Option PyData
  | .inr x => (ns.lookup x).map .int
  | .inl _ => none
def SpotF (its : List Item) : Key → Option PyData
  | .inl t => if 1 ≤ t then (its[(t - 1).toNat]?).map dIt else none
  | .inr _ => none
def nKeys (ns : List Nm) : List Key := (ns.map (·.1)).map Sum.inr
def LeadP (K : Fg) (ns : List Nm) : Pr := DicP K (nKeys ns) (LeadF ns)
def SpotP (K : Fg) (its : List Item) : Pr := PrE (fun ks : List Key => ks.length = its.length) fun ks => DicP K ks (SpotF its)
theorem spotI (its : List Item) (t : Int) : SpotF its (.inl t) = if 1 ≤ t then (its[(t - 1).toNat]?).map dIt else none := rfl
theorem leadS (ns : List Nm) (x : Str) : LeadF ns (.inr x) = (ns.lookup x).map .int := rfl
theorem spot_get {its : List Item} {x : Int} {q : Item} (h1 : 1 ≤ x) (h : its[(x - 1).toNat]? = some q) : SpotF its (.inl x) = some (dIt q) := by
  rw [spotI, if_pos h1, h]
  rfl
theorem spot_new (its : List Item) : SpotF its (.inl ((its.length : Int) + 1)) = none := by
  rw [spotI, if_pos (by omega), List.getElem?_eq_none (by omega)]
  rfl
theorem spot_put (its : List Item) (q : Item) : OB.putF (SpotF its) (.inl ((its.length : Int) + 1)) (dIt q) = SpotF (its ++ [q]) := by
  funext k
  cases k with
  | inr x => rfl
  | inl t =>
    unfold OB.putF
    rw [spotI, spotI]
    by_cases h : t = (its.length : Int) + 1
    · subst h
      rw [if_pos rfl, if_pos (by omega), show (((its.length : Int) + 1) - 1).toNat = its.length by omega]
      simp
    · rw [if_neg (fun z => h (by cases z; rfl))]
      by_cases h1 : 1 ≤ t
      · simp only [if_pos h1]
        by_cases h2 : (t - 1).toNat < its.length
        · rw [List.getElem?_append_left h2]
        · rw [List.getElem?_eq_none (by omega), List.getElem?_eq_none (by rw [List.length_append, List.length_singleton]; omega)]
      · simp only [if_neg h1]
theorem spot_set (its : List Item) (j : Nat) (q : Item) (hj : j < its.length) : OB.putF (SpotF its) (.inl ((j : Int) + 1)) (dIt q) = SpotF (its.set j q) := by
  funext k
  cases k with
  | inr x => rfl
  | inl t =>
    unfold OB.putF
    rw [spotI, spotI]
    by_cases h : t = (j : Int) + 1
    · subst h
      rw [if_pos rfl, if_pos (by omega), show (((j : Int) + 1) - 1).toNat = j by omega, List.getElem?_set_self hj]
      rfl
    · rw [if_neg (fun z => h (by cases z; rfl))]
      by_cases h1 : 1 ≤ t
      · simp only [if_pos h1]
        rw [List.getElem?_set_ne (by omega)]
      · simp only [if_neg h1]
theorem lookup_of {ns : List Nm} (nd : (ns.map (·.1)).Nodup) {p : Nm} (h : p ∈ ns) : ns.lookup p.1 = some p.2 := by
  induction ns with
  | nil => cases h
  | cons q ns ih =>
    rw [List.map_cons, List.nodup_cons] at nd
    obtain ⟨a, b⟩ := q
    rw [List.lookup_cons]
    rcases List.mem_cons.mp h with rfl | h
    · simp
    · have : p.1 ≠ a := fun z => nd.1 (List.mem_map.mpr ⟨p, h, z⟩)
      rw [show (p.1 == a) = false by simpa using this]
      exact ih nd.2 h
theorem lead_get {ns : List Nm} (nd : (ns.map (·.1)).Nodup) {p : Nm} (h : p ∈ ns) : LeadF ns (.inr p.1) = some (.int p.2) := by
  rw [leadS, lookup_of nd h]
  rfl
theorem srt_of {ns : List Nm} {ys : List Str} (nd : (ns.map (·.1)).Nodup) (h : ys.Perm (ns.map (·.1)) ∧ ys.Pairwise (fun a b => a.cps.toList ≤ b.cps.toList)) : ∃ ms, SrtN ns ms ∧ ys = ms.map (·.1) := by
  refine ⟨ys.map fun x => (x, (ns.lookup x).getD 0), ⟨?_, ?_⟩, ?_⟩
  · have e := h.1.map fun x => (x, (ns.lookup x).getD 0)
    have e2 : (ns.map (·.1)).map (fun x => (x, (ns.lookup x).getD 0)) = ns := by
      rw [List.map_map]
      have : ns.map ((fun x => (x, (ns.lookup x).getD 0)) ∘ fun p => p.1) = ns.map id := List.map_congr_left fun p hp => by
        show (p.1, (ns.lookup p.1).getD 0) = p
        rw [lookup_of nd hp]
        rfl
      rw [this, List.map_id]
    rw [e2] at e
    exact e
  · rw [List.pairwise_map]
    exact h.2
  · rw [List.map_map]
    exact (List.map_id ys).symm
section
variable {P : Program} {w : World} {K : Fg} {mg : Str → Option Value} {base : Heap} {σ : L2.St} {G H : Hp} {te ta tb : TE}
theorem ev_sortLead {ns : List Nm} (nm : (ns.map (·.1)).Nodup) (hl : ns.length < 64) (h : Ev te σ G (LeadP K ns)) : Ev (tCB rSortedD (tCons te tNil)) σ G (PrE (SrtN ns) fun ms => D K (.list (ms.map fun p => .str p.1))) :=
  PrE.imp (ev_sortedD (K := K) (ns := ns.map fun p : Nm => p.1) (f := LeadF ns) h (by rw [List.length_map]; exact hl)) fun ys hy => by
    obtain ⟨ms, S, rfl⟩ := srt_of nm hy
    exact ⟨ms, S, fun v G r => by rw [List.map_map] at r; exact r⟩
/-! _law_spots -/
abbrev n_spots : List Str := ["_law_items", "_law_found", "_law_k"]
abbrev s_spots : Stmt := top 37
theorem sc_spots : FnScope n_spots ["_law_items"] (defScope s_spots) := ⟨rfl, rfl, rfl, by decide +kernel, rfl, by decide +kernel, by decide +kernel⟩
def sp_spots (K : Fg) : Sp := fun vs H Q _ => ∃ (a : List Item) (G : Hp), Same G H ∧ AllR G vs [D K (dItems a)] ∧ a.length ≤ 1000 ∧ ∀ p kvs ks G' H', H p = none → G' p = none → Gr G H G' H' → H' p = some (.dK kvs) → DicAt K G' kvs ks (SpotF a) → ks.length = a.length → Q (.ref p) H'
theorem ok_spots (T : Tx mg) (F : Fd K mg "_law_spots" s_spots ["_law_items"]) : Def P w K mg base "_law_spots" 1 ["_law_items"] (sp_spots K) := by
  have nd := sc_spots.nd
  refine F.okS sc_spots (fun vs H Q E h => ?_) (fun f cdv A outer s H vs Q E hr h => ?_)
  · obtain ⟨a, G, _, h, _⟩ := h
    rw [allR_len h]
    rfl
  obtain ⟨a, G, sm, al, pr, k⟩ := h
  have e : Env 3 G (L2.start n_spots vs) (idx 0 [D K (dItems a)]) := env_start (N := n_spots) al (by show 1 ≤ 3; decide)
  generalize L2.start n_spots vs = σ at e
  have hu := hu_of hr
  refine ⟨_, (pss_cons (ps_set (i := 1) nd rfl (Or.inl rfl) pe_dnewK)
      (pss_cons (ps_for PassesOwn.never rfl (pi_range1 (by rfl) (T.nb' "range") (pa_cons (pe_callB call_len_seq (by rfl) (T.nb' "len") (by decide +kernel) (pa_cons (pv 0) pa_nil)) pa_nil)) (pg_name (i := 2) nd rfl (Or.inl rfl))
      (pss_one (ps_dput hu (pv 1) (pe_op op_add (pv 2) pe_int) (pe_ix ix_list (pv 0) (pv 2) (fun _ _ => rfl)) rfl)))
      (pss_one (ps_ret (pv 1))))), ?_⟩
  refine q_newD 1 e (.refl sm) (by decide) fun p σ1 H1 hp e1 g1 hH1 => ?_
  have pG : G p = none := sm.free hp
  have hp1 : H1 p = some (.dK []) := by rw [hH1, upd_same]
  refine q_forN g1.gh (src_rng (ev_lenL (ev_v e1)) (by omega) (by rw [List.length_map]; show ((a.length : Nat) : Int) < 2 ^ 62; omega)) fun G2 H2 g2 => ⟨fun j σ' G' H' => Gr G H G' H' ∧ G' p = none ∧ ∃ kvs ks, H' p = some (.dK kvs) ∧ DicAt K G' kvs ks (SpotF (a.take j)) ∧ ks.length = (a.take j).length ∧ Env 3 G' σ' [(1, Rf p), (0, D K (dItems a))], ?_, ?_, ?_⟩
  · refine ⟨g1.trans g2, g2.fr p pG (by rw [hp1]; intro z; cases z), [], [], g2.hh _ _ hp1, ⟨rfl, fun k => ?_⟩, rfl, (have e := e1.mono g2.gg; e.pick (e.pick e.nil))⟩
    cases k with
    | inr x => trivial
    | inl t =>
      show OptD K G2 none (SpotF [] (.inl t))
      rw [spotI]
      split
      · simp [OptD]
      · trivial
  · rintro j d v σ' G' H' hj s1 s2 hd ⟨g6, z2, kvs, ks, z3, z4, z5, e6⟩
    have hjl : j < a.length := by
      obtain ⟨h1, _⟩ := List.getElem?_eq_some_iff.mp hj
      rw [rngD_len] at h1
      simpa using h1
    have ej : d = .int (j : Nat) := by
      rw [rngD_get (by simpa using hjl)] at hj
      exact (Option.some.inj hj).symm
    subst ej
    have hq : a[j]? = some a[j] := by simp [hjl]
    generalize a[j] = q at hq
    have hlt : (a.take j).length = j := by rw [List.length_take]; omega
    have e7 := e6.set (i := 2) (R := D K (.int (j : Nat))) (by decide) hd
    refine w_dput (key := .inl ((j : Int) + 1)) (R := D K (dIt q)) e7 g6.gh rfl z3 (by rw [z4.len, z5, hlt]; exact Nat.lt_of_le_of_lt (by omega : j ≤ 1000) (by decide)) (ev_ixL (ev_v e7) (ev_v e7) (atI_nat (by rw [List.getElem?_map, hq]; rfl))) (ev_add (ev_v e7) ev_int) fun v8 G8 H8 g8 r8 => ?_
    have pG8 : G8 p = none := g8.fr p z2 (by rw [z3]; intro z; cases z)
    have g9 : Gr G H G8 (upd H8 p (.dK (putK kvs (.inl ((j : Int) + 1)) v8))) := (g6.trans g8).mut hp pG8
    have hn : SpotF (a.take j) (.inl ((j : Int) + 1)) = none := by
      have := spot_new (a.take j)
      rw [hlt] at this
      exact this
    have hd9 := (z4.mono g8.gg).putN hn r8
    have hs := spot_put (a.take j) q
    rw [hlt] at hs
    rw [hs, ← take_snoc hq] at hd9
    refine ⟨G8, s1.trans g8.gg, g9.gh, g9, pG8, _, _, upd_same, hd9, ?_, (have e := e7.mono g8.gg; e.pick (e.pick e.nil))⟩
    rw [List.length_append, z5, take_snoc hq, List.length_append]
    rfl
  · rintro σ' G' H' s1 s2 ⟨z1, z2, kvs, ks, z3, z4, z5, z7⟩
    have hlen : (rngD ((↑(List.map dIt a).length : Int)).toNat).length = a.length := by rw [rngD_len]; simp
    rw [hlen, List.take_length] at z4 z5
    obtain ⟨w, h1, h2⟩ := z7.get 1 (Rf p) rfl
    cases (show w = .ref p from h2)
    exact ⟨_, h1, k p kvs ks G' H' hp z2 z1 z3 z4 z5⟩
/-! _law_met -/
abbrev n_met : List Str := ["_law_leads", "_law_spots_here", "_law_found", "_law_name", "_law_k", "_law_target"]
abbrev s_met : Stmt := top 35
theorem sc_met : FnScope n_met ["_law_leads", "_law_spots_here"] (defScope s_met) := ⟨rfl, rfl, rfl, by decide +kernel, rfl, by decide +kernel, by decide +kernel⟩
def sp_met (K : Fg) : Sp := spD (α := List Nm × List Item × List Key) (fun a => [LeadP K a.1, DicP K a.2.2 (SpotF a.2.1)]) (fun a => InWeb a.1 a.2.1 ∧ (a.1.map (·.1)).Nodup ∧ a.1.length < 64 ∧ a.2.2.length = a.2.1.length) (fun a => PrE (SrtN a.1) fun ms => D K (dInts (ordOf ms a.2.1)))
theorem ok_met (T : Tx mg) (F : Fd K mg "_law_met" s_met ["_law_leads", "_law_spots_here"]) : Def P w K mg base "_law_met" 1 ["_law_leads", "_law_spots_here"] (sp_met K) := by
  have nd := sc_met.nd
  refine F.okD sc_met (fun _ => rfl) (fun f cdv A outer s H E Q a G hr sm pr k => ?_)
  have hu := hu_of hr
  refine ⟨_, (pss_cons (ps_set (i := 2) nd rfl (Or.inl rfl) (pe_lst pa_nil))
      (pss_cons (ps_for PassesOwn.never rfl (pi_list (pe_callB (kSortedD rfl) (by rfl) (T.nb' "sorted") (by decide +kernel) (pa_cons (pv 0) pa_nil))) (pg_name (i := 3) nd rfl (Or.inl rfl))
      (pss_one (ps_if (PW.pt (pw_and (pt_cmpR op_gt (pe_dget hu (pv 0) (pv 3) (fun _ _ => rfl)) pe_int (nomark _)) (pw_and1 (pt_cmpR op_notIn_seq (pe_dget hu (pv 0) (pv 3) (fun _ _ => rfl)) (pv 2) (by rfl))))) (pss_one (ps_expr (pe_bm PySem.F.plainAttrs_list PySem.F.slot_list_append PySem.F.type_list_append mt_append (pv 2) (pa_cons (pe_dget hu (pv 0) (pv 3) (fun _ _ => rfl)) pa_nil)))) pss_nil)))
      (pss_cons (ps_for PassesOwn.never rfl (pi_range1 (by rfl) (T.nb' "range") (pa_cons (pe_callB kLenD (by rfl) (T.nb' "len") (by decide +kernel) (pa_cons (pv 1) pa_nil)) pa_nil)) (pg_name (i := 4) nd rfl (Or.inl rfl))
      (pss_one (ps_if (pt_cmpR op_lt (pv 4) (pe_callB call_len_seq (by rfl) (T.nb' "len") (by decide +kernel) (pa_cons (pv 2) pa_nil)) (nomark _)) (pss_one (ps_for PassesOwn.never rfl (pi_tup (pe_ix ix_tup (pe_dget hu (pv 1) (pe_ix ix_list (pv 2) (pv 4) (fun _ _ => rfl)) (fun _ _ => rfl)) pe_int (fun _ _ => rfl))) (pg_name (i := 5) nd rfl (Or.inl rfl))
      (pss_one (ps_if (PW.pt (pw_and (pt_cmpR op_gt (pv 5) pe_int (nomark _)) (pw_and1 (pt_cmpR op_notIn_seq (pv 5) (pv 2) (by rfl))))) (pss_one (ps_expr (pe_bm PySem.F.plainAttrs_list PySem.F.slot_list_append PySem.F.type_list_append mt_append (pv 2) (pa_cons (pv 5) pa_nil)))) pss_nil)))) pss_nil)))
      (pss_one (ps_ret (pv 2)))))), fun σ e => ?_⟩
  obtain ⟨ns, its, ks⟩ := a
  obtain ⟨W, nn, hl64, hkl⟩ : InWeb ns its ∧ (ns.map (·.1)).Nodup ∧ ns.length < 64 ∧ ks.length = its.length := pr
  have W' : its.length ≤ 1000 := W.il
  refine q_newL 2 e (.refl sm) (by decide) fun p σ1 H1 hp e1 g1 hH1 => ?_
  have pG : G p = none := sm.free hp
  have hp1 : H1 p = some (.lst []) := by rw [hH1, upd_same]
  have put1 : ∀ (o : List Int) (t : Int), (decide (0 < t) && !decide (t ∈ o)) = true → meet1 o t = o ++ [t] := fun o t h => by
    simp only [Bool.and_eq_true, decide_eq_true_eq, Bool.not_eq_true', decide_eq_false_iff_not] at h
    unfold meet1
    rw [if_pos h]
  have put0 : ∀ (o : List Int) (t : Int), (decide (0 < t) && !decide (t ∈ o)) = false → meet1 o t = o := fun o t h => by
    unfold meet1
    refine if_neg fun z => ?_
    rw [decide_eq_true z.1, decide_eq_false z.2] at h
    cases h
  refine q_forNE g1.gh (srcE_list (ev_sortLead nn hl64 (ev_v e1))) fun ms S G2 H2 g2 => ⟨fun j σ' G' H' => Gr G H G' H' ∧ G' p = none ∧ H' p = some (.lst ((meetL [] ((ms.take j).map (·.2))).map V.int)) ∧ Env 6 G' σ' [(2, Rf p), (0, LeadP K ns), (1, DicP K ks (SpotF its))], ?_, ?_, ?_⟩
  · exact ⟨g1.trans g2, g2.fr p pG (by rw [hp1]; intro z; cases z), g2.hh _ _ hp1, (have e := e1.mono g2.gg; e.pick (e.pick (e.pick e.nil)))⟩
  · rintro j d v σ' G' H' hj s1 s2 hd ⟨z1, z2, z3, z4⟩
    rw [List.getElem?_map] at hj
    cases q : ms[j]? with
    | none => rw [q] at hj; cases hj
    | some m =>
      rw [q] at hj
      cases hj
      have hm : m ∈ ns := S.1.mem_iff.mp (List.mem_of_getElem? q)
      have hml : ms.length < 64 := by rw [S.1.length_eq]; exact hl64
      have hbig : (meetL [] ((ms.take j).map (·.2))).length ≤ 64 := Nat.le_trans (meetL_len _ _) (by simp only [List.length_map, List.length_take, List.length_nil]; omega)
      have e1 : meetL [] ((ms.take (j + 1)).map (·.2)) = meet1 (meetL [] ((ms.take j).map (·.2))) m.2 := by rw [take_snoc q, List.map_append, List.map_singleton, meetL_snoc]
      generalize meetL [] ((ms.take j).map (·.2)) = o at z3 e1 hbig
      have e5 := z4.set (i := 3) (R := D K (.str m.1)) (by decide) hd
      have e6 := e5.mono z1.gh
      have e7 : Env 6 H' _ [(2, D K (dInts o)), (3, D K (.str m.1)), (0, LeadP K ns)] := Env.seeL (e6.pick (e6.pick (e6.pick e6.nil))) z3 (dpa_ints o)
      refine w_ifFN (et_and (et_test (ev_gt (ev_dget (k := .inr m.1) (ev_v e7) (ev_v e7) (lead_get nn hm)) ev_int)) fun _ => et_test (ev_niI (ev_dget (k := .inr m.1) (ev_v e7) (ev_v e7) (lead_get nn hm)) (ev_v e7))) (fun hb H8 s8 => ?_) (fun hb H8 s8 => ?_)
      · refine w_append e5 (s2.trans s8) rfl (s8 _ _ z3) (by rw [List.length_map]; exact Nat.lt_of_le_of_lt hbig (by decide)) (ev_dget (k := .inr m.1) (ev_v e5) (ev_v e5) (lead_get nn hm)) fun v9 G9 H9 g9 r9 => ?_
        cases dp_int r9
        have pG9 : G9 p = none := g9.fr p z2 (by rw [s8 _ _ z3]; intro z; cases z)
        have g10 : Gr G H G9 (upd H9 p (.lst (o.map V.int ++ [V.int m.2]))) := ((z1.grow s8).trans g9).mut hp pG9
        refine ⟨G9, s1.trans g9.gg, g10.gh, g10, pG9, ?_, (have e := e5.mono g9.gg; e.pick (e.pick (e.pick e.nil)))⟩
        rw [e1, put1 _ _ hb, List.map_append]
        exact upd_same
      · refine ⟨G', s1, s2.trans s8, z1.grow s8, z2, ?_, e5.pick (e5.pick (e5.pick e5.nil))⟩
        rw [e1, put0 _ _ hb]
        exact s8 _ _ z3
  rintro σ2 G3 H3 s3 s3' ⟨z1, z2, z3, e3⟩
  rw [List.length_map, List.take_length] at z3
  have z3 : H3 p = some (.lst ((run (adjOf its) (first ms) 0).map V.int)) := z3
  refine q_forN z1.gh (src_rng (ev_lenDK (ev_v e3)) (by omega) (by rw [hkl]; show ((its.length : Nat) : Int) < 2 ^ 62; omega)) fun G4 H4 g4 => ⟨fun j σ' G' H' => Gr G H G' H' ∧ G' p = none ∧ H' p = some (.lst ((run (adjOf its) (first ms) j).map V.int)) ∧ Env 6 G' σ' [(2, Rf p), (1, DicP K ks (SpotF its))], ?_, ?_, ?_⟩
  · exact ⟨z1.trans g4, g4.fr p z2 (by rw [z3]; intro z; cases z), g4.hh _ _ z3, (have e := e3.mono g4.gg; e.pick (e.pick e.nil))⟩
  · rintro j d v σ' G' H' hj s1 s2 hd ⟨z1, z2, z3, z4⟩
    have hjl : j < its.length := by
      obtain ⟨h1, _⟩ := List.getElem?_eq_some_iff.mp hj
      rw [rngD_len] at h1
      have : j < ks.length := by simpa using h1
      omega
    have ej : d = .int (j : Nat) := by
      rw [rngD_get (by rw [hkl]; simpa using hjl)] at hj
      exact (Option.some.inj hj).symm
    subst ej
    have rin := in_run W S j
    have rnd := nd_run (ms := ms) (items := its) j
    have rlen := len_le rnd rin
    have e5 := z4.set (i := 4) (R := D K (.int (j : Nat))) (by decide) hd
    have e6 := e5.mono z1.gh
    have e7 : Env 6 H' _ [(2, D K (dInts (run (adjOf its) (first ms) j))), (4, D K (.int (j : Nat)))] := Env.seeL (e6.pick (e6.pick e6.nil)) z3 (dpa_ints _)
    refine w_ifFN (et_test (ev_lt (ev_v e7) (ev_lenL (ev_v e7)))) (fun hb H8 s8 => ?_) (fun hb H8 s8 => ?_)
    · have hlt : j < (run (adjOf its) (first ms) j).length := by
        have := of_decide_eq_true hb
        rw [List.length_map] at this
        omega
      have hx : (run (adjOf its) (first ms) j)[j]? = some (run (adjOf its) (first ms) j)[j] := by simp [hlt]
      generalize (run (adjOf its) (first ms) j)[j] = x at hx
      have hxi := rin x (List.mem_of_getElem? hx)
      have hit : its[(x - 1).toNat]? = some (its[(x - 1).toNat]'(by omega)) := by simp [show (x - 1).toNat < its.length by omega]
      generalize its[(x - 1).toNat]'(by omega) = itm at hit
      have hW := W.it itm (List.mem_of_getElem? hit)
      have hstep : run (adjOf its) (first ms) (j + 1) = meetL (run (adjOf its) (first ms) j) itm.2 := by
        show stepAt _ _ _ = _
        unfold stepAt
        rw [hx]
        show meetL _ (adjOf its x) = _
        unfold adjOf
        rw [hit]
      obtain ⟨w1, c1, pd, kvs, rfl, hpd, hdk⟩ := e5.get 1 _ rfl
      obtain ⟨w2, c2, rfl⟩ := e5.get 2 _ rfl
      obtain ⟨w4, c4, d4⟩ := e5.get 4 _ rfl
      cases dp_int d4
      obtain ⟨vi, hv1, hv2⟩ := OptD.some ((spot_get hxi.1 hit) ▸ hdk.2 (.inl x))
      obtain ⟨ta, ys, rfl, hys, hyd⟩ := dp_tup hv2
      obtain ⟨v1, hy1, hy2⟩ := dpa_get (i := 1) hyd rfl
      obtain ⟨tb, xs, rfl, hxs, hxd⟩ := dp_tup hy2
      have hy1' : atI ys 1 = some (.ref tb) := atI_nat (j := 1) hy1
      have sg := s2.trans s8
      refine w_forTupAt (ds := itm.2.map .int) sg (fun Q q => ⟨_, c1, _, c2, _, c4, p, _, (j : Int), .int x, rfl, rfl, SqL.of (s8 _ _ z3), atI_nat (by rw [List.getElem?_map, hx]; rfl), pd, _, rfl, hv1 ▸ DGet.k (k := .inl x) (sg _ _ hpd), ta, ys, 1, .ref tb, rfl, rfl, sm_t sg hys, hy1', q tb xs hxs hxd⟩) fun G9 H9 g9 => ⟨fun m σ' G' H' => Gr G H G' H' ∧ G' p = none ∧ H' p = some (.lst ((meetL (run (adjOf its) (first ms) j) (itm.2.take m)).map V.int)) ∧ Env 6 G' σ' [(2, Rf p), (1, DicP K ks (SpotF its))], ?_, ?_, ?_⟩
      · exact ⟨(z1.grow s8).trans g9, g9.fr p z2 (by rw [s8 _ _ z3]; intro z; cases z), g9.hh _ _ (s8 _ _ z3), (have e := e5.mono g9.gg; e.pick (e.pick e.nil))⟩
      · rintro m d v σ' Ga Ha hm t1 t2 hd ⟨y1, y2, y3, y4⟩
        obtain ⟨t, rfl, hmt⟩ := getI hm
        have hbig : (meetL (run (adjOf its) (first ms) j) (itm.2.take m)).length ≤ 3000 := Nat.le_trans (meetL_len _ _) (by rw [List.length_take]; have := hW.1; omega)
        have e1 : meetL (run (adjOf its) (first ms) j) (itm.2.take (m + 1)) = meet1 (meetL (run (adjOf its) (first ms) j) (itm.2.take m)) t := by rw [take_snoc hmt, meetL_snoc]
        generalize meetL (run (adjOf its) (first ms) j) (itm.2.take m) = o at y3 e1 hbig
        have e8 := y4.set (i := 5) (R := D K (.int t)) (by decide) hd
        have e9 := e8.mono y1.gh
        have ea : Env 6 Ha _ [(2, D K (dInts o)), (5, D K (.int t))] := Env.seeL (e9.pick (e9.pick e9.nil)) y3 (dpa_ints o)
        refine w_ifFN (et_and (et_test (ev_gt (ev_v ea) ev_int)) fun _ => et_test (ev_niI (ev_v ea) (ev_v ea))) (fun hb Hb sb => ?_) (fun hb Hb sb => ?_)
        · refine w_append e8 (t2.trans sb) rfl (sb _ _ y3) (by rw [List.length_map]; exact Nat.lt_of_le_of_lt hbig (by decide)) (ev_v e8) fun v9 Gc Hc gc rc => ?_
          cases dp_int rc
          have pGc : Gc p = none := gc.fr p y2 (by rw [sb _ _ y3]; intro z; cases z)
          have gd : Gr G H Gc (upd Hc p (.lst (o.map V.int ++ [V.int t]))) := ((y1.grow sb).trans gc).mut hp pGc
          refine ⟨Gc, t1.trans gc.gg, gd.gh, gd, pGc, ?_, (have e := e8.mono gc.gg; e.pick (e.pick e.nil))⟩
          rw [e1, put1 _ _ hb, List.map_append]
          exact upd_same
        · refine ⟨Ga, t1, t2.trans sb, y1.grow sb, y2, ?_, e8.pick (e8.pick e8.nil)⟩
          rw [e1, put0 _ _ hb]
          exact sb _ _ y3
      · rintro σ' Ga Ha t1 t2 ⟨y1, y2, y3, y4⟩
        rw [List.length_map, List.take_length, ← hstep] at y3
        exact ⟨Ga, (s1.trans g9.gg).trans t1, t2, y1, y2, y3, y4⟩
    · refine ⟨G', s1, s2.trans s8, z1.grow s8, z2, ?_, e5.pick (e5.pick e5.nil)⟩
      have : run (adjOf its) (first ms) (j + 1) = run (adjOf its) (first ms) j := by
        show stepAt _ _ _ = _
        unfold stepAt
        have := of_decide_eq_false hb
        rw [List.length_map] at this
        rw [List.getElem?_eq_none (by omega)]
      rw [this]
      exact s8 _ _ z3
  · rintro σ' G' H' s1 s2 ⟨z1, z2, z3, z7⟩
    have hlen : (rngD ((↑ks.length : Int)).toNat).length = its.length := by rw [rngD_len, hkl]; simp
    rw [hlen] at z3
    exact w_retL z7 z1 rfl hp z2 z3 (dpa_ints _) fun v G' H' g r => k v G' H' g ⟨ms, S, r⟩
end
end K3
set_option Elab.async false
set_option linter.all false
set_option maxRecDepth 100000
set_option maxHeartbeats 1000000
namespace K3
open PySem L2 OB
section
variable {P : Program} {w : World} {K : Fg} {mg : Str → Option Value} {base : Heap} {σ : L2.St} {G H : Hp} {te ta tb : TE}
abbrev n_canon : List Str := ["_law_leads", "_law_spots_here", "_law_order", "_law_anew", "_law_k", "_law_names_here", "_law_name", "_law_one", "_law_target"]
abbrev s_canon : Stmt := top 36
theorem sc_canon : FnScope n_canon ["_law_leads", "_law_spots_here"] (defScope s_canon) := ⟨rfl, rfl, rfl, by decide +kernel, rfl, by decide +kernel, by decide +kernel⟩
def CanP (K : Fg) (n m : Nat) : Pr := PrE (fun r : Raw => Canon r ∧ r.1.length = n ∧ r.2.length ≤ m) fun r => D K (dRaw r)
def sp_canon (K : Fg) : Sp := spD (α := List Nm × List Item × List Key) (fun a => [LeadP K a.1, DicP K a.2.2 (SpotF a.2.1)]) (fun a => NamesOk a.1 ∧ ItemsOk a.1 a.2.1 ∧ a.2.2.length = a.2.1.length) (fun a => CanP K a.1.length a.2.1.length)
theorem num1 : DicAt K G (mergeK [] [((.inl 0 : Key), V.int 0)]) [.inl 0] (NumD (putI (fun _ => none) 0 0)) := by
  have e : mergeK [] [((.inl 0 : Key), V.int 0)] = [(.inl 0, .int 0)] := by decide +kernel
  rw [e]
  refine ⟨rfl, fun k => ?_⟩
  cases k with
  | inr s => exact trivial
  | inl t =>
    unfold NumD putI valV
    by_cases h0 : t = 0
    · subst h0; exact .int 0
    · simp only [List.find?_cons, h0]
      have a1 : decide ((Sum.inl 0 : Key) = .inl t) = false := decide_eq_false fun z => h0 (by cases z; rfl)
      rw [a1]
      exact trivial
theorem ok_canon (T : Tx mg) (F : Fd K mg "_law_canon" s_canon ["_law_leads", "_law_spots_here"]) (D_law_met : Def P w K mg base "_law_met" 1 ["_law_leads", "_law_spots_here"] (sp_met K)) : Def P w K mg base "_law_canon" 2 ["_law_leads", "_law_spots_here"] (sp_canon K) := by
  have nd := sc_canon.nd
  refine F.okD sc_canon (fun _ => rfl) (fun f cdv A outer s H E Q a G hr sm pr k => ?_)
  have hu := hu_of hr
  refine ⟨_, (pss_cons (ps_set (i := 2) nd rfl (Or.inl rfl) (pe_def D_law_met hr (by rfl) (pa_cons (pv 0) (pa_cons (pv 1) pa_nil))))
      (pss_cons (ps_set (i := 3) nd rfl (Or.inr rfl) (pe_disp (pps_cons pe_int pe_int pps_nil) (by rfl) (by rfl) (fun z => by cases z) (by decide)))
      (pss_cons (ps_dput hu (pv 3) (pe_op op_sub pe_int pe_int) (pe_op op_sub pe_int pe_int) rfl)
      (pss_cons (ps_for PassesOwn.never rfl (pi_range1 (by rfl) (T.nb' "range") (pa_cons (pe_callB call_len_seq (by rfl) (T.nb' "len") (by decide +kernel) (pa_cons (pv 2) pa_nil)) pa_nil)) (pg_name (i := 4) nd rfl (Or.inl rfl))
      (pss_one (ps_dput hu (pv 3) (pe_ix ix_list (pv 2) (pv 4) (fun _ _ => rfl)) (pe_op op_add (pv 4) pe_int) rfl)))
      (pss_cons (ps_setLc (i := 5) (own := [("_law_name", 6)]) (g := (gName 6)) rfl nd rfl rfl (sw_true rfl rfl rfl (by decide +kernel)) (pi_list (pe_callB (kSortedD rfl) (by rfl) (T.nb' "sorted") (by decide +kernel) (pa_cons (pv 0) pa_nil))) (blkOk_by (by kernel_rfl)) (fun _ _ _ _ _ => (pg_name (i := 6) nd rfl (Or.inl rfl))) (fun _ _ _ _ _ => pts_nil) (fun _ _ _ _ _ => (pe_tup (pa_cons (pv 6) (pa_cons (pe_dget hu (pv 3) (pe_dget hu (pv 0) (pv 6) (fun _ _ => rfl)) (fun _ _ => rfl)) pa_nil)))))
      (pss_one (ps_ret (pe_tup (pa_cons (pv 5) (pa_cons (pe_lc (own := [("_law_one", 7)]) (g := (gName 7)) rfl nd (pi_list (pv 2)) (blkOk_by (by kernel_rfl)) (fun _ _ _ _ _ => (pg_name (i := 7) nd rfl (Or.inl rfl))) (fun _ _ _ _ _ => pts_nil) (fun _ _ _ _ _ => (pe_tup (pa_cons (pe_ix (kIxT K) (pe_dget hu (pv 1) (pv 7) (fun _ _ => rfl)) pe_int (fun _ _ => rfl)) (pa_cons (pe_callTy (kTupOf K) (by rfl) (T.nb' "tuple") (by decide +kernel) (pa_cons (pe_lc (own := [("_law_target", 8)]) (g := (gName 8)) rfl nd (kpTup K (pe_ix (kIxT K) (pe_dget hu (pv 1) (pv 7) (fun _ _ => rfl)) pe_int (fun _ _ => rfl))) (blkOk_by (by kernel_rfl)) (fun _ _ _ _ _ => (pg_name (i := 8) nd rfl (Or.inl rfl))) (fun _ _ _ _ _ => pts_nil) (fun _ _ _ _ _ => (pe_dget hu (pv 3) (pv 8) (fun _ _ => rfl)))) pa_nil)) pa_nil))))) pa_nil)))))))))), fun σ e => ?_⟩
  obtain ⟨ns, its, ks⟩ := a
  obtain ⟨nm, it, hkl⟩ : NamesOk ns ∧ ItemsOk ns its ∧ ks.length = its.length := pr
  have W := inWeb_of nm it
  have h64 : ns.length < 64 := by have := nm.len; omega
  refine q_asg 2 e (.refl sm) (ev_call0 (ns, its, ks) (ea_cons (ev_v e) (ea_cons (ev_v e) ea_nil)) ⟨W, nm.nd, h64, hkl⟩) (by decide) fun σ1 G1 H1 e1 g1 _ => ?_
  obtain ⟨ms, S, e1⟩ := Env.open e1
  refine q_disp1 3 (.inl 0) e1 g1 (by decide) fun p σ2 H2 hp e2 g2 hH2 => ?_
  have p0 : H p = none := g1.hh.free hp
  have pG : G1 p = none := g1.gh.free hp
  have hp2 : H2 p = some (.dK (mergeK [] [((.inl 0 : Key), V.int 0)])) := by rw [hH2, upd_same]
  refine q_dput (K := K) (key := .inl (-1)) (R := D K (.int (-1))) e2 g2.gh rfl hp2 (by decide +kernel) ((ev_sub ev_int ev_int).is rfl) ((ev_sub ev_int ev_int).is rfl) fun v3 G3 H3 g3 r3 => ?_
  have pG3 : G3 p = none := g3.fr p pG (by rw [hp2]; intro z; cases z)
  have g3' := (g2.trans g3).mut (o := .dK (putK (mergeK [] [((.inl 0 : Key), V.int 0)]) (.inl (-1)) v3)) p0 pG3
  have hd3 := (num1 (K := K) (G := G3)).put (k := .inl (-1)) r3
  rw [NumD_put] at hd3
  have oin := in_run W S its.length
  have ond := nd_run (ms := ms) (items := its) its.length
  have olen := len_le ond oin
  have hil : its.length ≤ 200 := it.len
  have ocl := run_closed (adj := adjOf its) (o := first ms) olen
  have olen' : (ordOf ms its).length ≤ 200 := Nat.le_trans olen hil
  have e3 := e2.mono g3.gg
  refine q_forN g3'.gh (src_rng (ev_lenL (ev_v e3)) (by omega) (by rw [List.length_map]; show (((ordOf ms its).length : Nat) : Int) < 2 ^ 62; omega)) fun G4 H4 g4 => ⟨fun j σ' G' H' => Gr G H G' H' ∧ G' p = none ∧ ∃ kvs kk nf, H' p = some (.dK kvs) ∧ DicAt K G' kvs kk (NumD nf) ∧ kk.length ≤ j + 2 ∧ Nums nf ((ordOf ms its).take j) ∧ Env 9 G' σ' [(3, Rf p), (2, D K (dInts (ordOf ms its))), (0, LeadP K ns), (1, DicP K ks (SpotF its))], ?_, ?_, ?_⟩
  · refine ⟨g3'.trans g4, g4.fr p pG3 (by rw [upd_same]; intro z; cases z), _, _, _, g4.hh _ _ upd_same, hd3.mono g4.gg, addK_len _ _, ⟨rfl, rfl, by simp⟩, (have e := e3.mono g4.gg; e.pick (e.pick (e.pick (e.pick e.nil))))⟩
  · rintro j d v σ' G' H' hj s1 s2 hd ⟨z1, z2, kvs, kk, nf, z3, z4, z5, z6, z7⟩
    have hjl : j < (ordOf ms its).length := by
      obtain ⟨h1, _⟩ := List.getElem?_eq_some_iff.mp hj
      rw [rngD_len] at h1
      simpa using h1
    have ej : d = .int (j : Nat) := by
      rw [rngD_get (by simpa using hjl)] at hj
      exact (Option.some.inj hj).symm
    subst ej
    have hx : (ordOf ms its)[j]? = some (ordOf ms its)[j] := by simp [hjl]
    generalize (ordOf ms its)[j] = x at hx
    have e5 := z7.set (i := 4) (R := D K (.int (j : Nat))) (by decide) hd
    refine w_dput (key := .inl x) (R := D K (.int ((j : Int) + 1))) e5 s2 rfl z3 (by rw [z4.len]; exact Nat.lt_of_le_of_lt (Nat.le_trans z5 (by omega : j + 2 ≤ 2000)) (by decide)) (ev_add (ev_v e5) ev_int) (ev_ixL (ev_v e5) (ev_v e5) (atI_nat (by rw [List.getElem?_map, hx]; rfl))) fun v6 G6 H6 g6 r6 => ?_
    have pG6 : G6 p = none := g6.fr p z2 (by rw [z3]; intro z; cases z)
    have g7 : Gr G H G6 (upd H6 p (.dK (putK kvs (.inl x) v6))) := (z1.trans g6).mut p0 pG6
    have hd7 := (z4.mono g6.gg).put (k := .inl x) r6
    rw [NumD_put] at hd7
    refine ⟨G6, s1.trans g6.gg, g7.gh, g7, pG6, _, _, _, upd_same, hd7, Nat.le_trans (addK_len _ _) (by omega), z6.put hx ond (oin x (List.mem_of_getElem? hx)).1, (have e := e5.mono g6.gg; e.pick (e.pick (e.pick (e.pick e.nil))))⟩
  rintro σ5 G5 H5 s1 s2 ⟨z1, z2, kvs, kk, nf, z3, z4, z5, N, z7⟩
  have hlen : (rngD ((↑(List.map PyData.int (ordOf ms its)).length : Int)).toNat).length = (ordOf ms its).length := by rw [rngD_len]; simp
  rw [hlen, List.take_length] at N
  have e6 := Env.freezeD z7 z2 z4
  have g6 := z1.freeze p0 z2 z3
  generalize upd G5 p (.dK kvs) = G6 at e6 g6
  have hnf : ∀ t : Int, -1 ≤ t → (0 < t → t ∈ ordOf ms its) → nf t = some ((nf t).getD 0) := fun t t1 t2 => by
    by_cases h0 : t = 0
    · rw [h0, N.1]; rfl
    · by_cases h1 : t = -1
      · rw [h1, N.2.1]; rfl
      · obtain ⟨i, hi, rfl⟩ := List.mem_iff_getElem.mp (t2 (by omega))
        rw [N.2.2 i _ (by simp [hi])]
        rfl
  have hfirst : ∀ x ∈ first ms, x ∈ ordOf ms its := fun x hx => by
    obtain ⟨s, hs⟩ := run_pre (adjOf its) (first ms) its.length
    show x ∈ run (adjOf its) (first ms) its.length
    rw [hs]
    exact List.mem_append_left _ hx
  have hnm : ∀ q ∈ ns, nf q.2 = some ((nf q.2).getD 0) := fun q hq => hnf q.2 (W.nt q hq).1 fun h0 => hfirst _ (meetL_mem h0 _ _ (.inl (List.mem_map_of_mem (S.1.mem_iff.mpr hq))))
  have hit : ∀ x ∈ ordOf ms its, ∀ t ∈ (itOf its x).2, nf t = some ((nf t).getD 0) := fun x hx t ht => by
    have hb := oin x hx
    obtain ⟨a1, a2⟩ := adj_it hb.1 hb.2
    exact hnf t ((W.it _ a2).2 t ht).1 fun h0 => ocl x hx t (by rw [a1]; exact ht) h0
  let FF : Int → Int := fun t => (nf t).getD 0
  have hE : Ev (tLc (iList K (tCB rSortedD (tCons (tVar 0) tNil))) (gName 6) tYes (tTup (tCons (tVar 6) (tCons (tDGet (tVar 3) (tDGet (tVar 0) (tVar 6))) tNil))) [6]) σ5 G6 (D K (dNames (ms.map fun p => (p.1, FF p.2)))) := by
    have h1 := ev_lcE (K := K) (σ := σ5) (G := G6) (P := SrtN ns) (ds := fun ms => ms.map fun p => PyData.str p.1) (g := gName 6) (vs := [6]) (te := tTup (tCons (tVar 6) (tCons (tDGet (tVar 3) (tDGet (tVar 0) (tVar 6))) tNil))) (fun _ d => OB.dNm (strOf d, FF ((ns.lookup (strOf d)).getD 0))) (srcE_list (ev_sortLead nm.nd h64 (ev_v (i := 0) e6))) (fun ms' S' => by rw [List.length_map, S'.1.length_eq]; omega) (fun ms' S' i d v G' h1 h2 h3 => by
      rw [List.getElem?_map] at h1
      cases q : ms'[i]? with
      | none => rw [q] at h1; cases h1
      | some m =>
        rw [q] at h1
        cases h1
        have hm : m ∈ ns := S'.1.mem_iff.mp (List.mem_of_getElem? q)
        have e7 := (((e6.wipe1 (i := 6) (l' := [(3, DicP K kk (NumD nf)), (0, LeadP K ns)]) (lkc (by decide) rfl (lkc (by decide) rfl lk0))).mono h2).set (i := 6) (R := D K (.str m.1)) (by decide) h3)
        refine ⟨_, tg_name, wipe_set1, ?_⟩
        have hl : FF ((ns.lookup (strOf (.str m.1))).getD 0) = FF m.2 := by
          show FF ((ns.lookup m.1).getD 0) = _
          rw [lookup_of nm.nd hm]
          rfl
        show Ev _ _ G' (D K (.tuple [.str m.1, .int (FF ((ns.lookup (strOf (.str m.1))).getD 0))]))
        rw [hl]
        exact ev_tup [.str m.1, .int (FF m.2)] (ea_cons (ev_v e7) (ea_cons (ev_dget (k := .inl m.2) (ev_v e7) (ev_dget (k := .inr m.1) (ev_v e7) (ev_v e7) (lead_get nm.nd hm)) (by
          show (nf m.2).map PyData.int = _
          rw [hnm m hm]
          rfl)) ea_nil)) (by show 2 ≤ sizeLine; decide))
    refine h1.imp fun v G ⟨ms', S', r⟩ => ?_
    have := srt_one nm.nd S' S
    subst this
    unfold dNames
    have r : Dp K G v (PyData.list ((ms'.map fun p => PyData.str p.1).map fun d => OB.dNm (strOf d, FF ((ns.lookup (strOf d)).getD 0)))) := r
    rw [List.map_map] at r ⊢
    have ec : (ms'.map ((fun d => OB.dNm (strOf d, FF ((ns.lookup (strOf d)).getD 0))) ∘ fun p => PyData.str p.1)) = ms'.map (OB.dNm ∘ fun p => (p.1, FF p.2)) := List.map_congr_left fun m hm => by
      show OB.dNm (m.1, FF ((ns.lookup m.1).getD 0)) = OB.dNm (m.1, FF m.2)
      rw [lookup_of nm.nd (S'.1.mem_iff.mp hm)]
      rfl
    rw [ec] at r
    exact r
  refine q_asg 5 e6 g6 hE (by decide) fun σ7 G7 H7 e7 g7 _ => ?_
  refine w_ret g7 (R := D K (dRaw (ms.map (fun p => (p.1, FF p.2)), (ordOf ms its).map fun x => ((itOf its x).1, (itOf its x).2.map FF)))) ?_ fun v G' H' g r => k v G' H' g ⟨_, canon_of nm it ⟨ms, nf, S, N, rfl, rfl⟩, r⟩
  refine ev_tup [dNames _, dItems _] (ea_cons (ev_v e7) (ea_cons ?_ ea_nil)) (by show 2 ≤ sizeLine; decide)
  unfold dItems
  rw [List.map_map]
  refine ev_lcI (fun x => dIt ((itOf its x).1, (itOf its x).2.map FF)) (src_list (ev_v e7)) (by omega) e7 [(3, DicP K kk (NumD nf)), (1, DicP K ks (SpotF its))] (lkc (by decide) rfl (lkc (by decide) rfl lk0)) (by decide) fun x σ8 G8 hx _ e8 => ?_
  have hb := oin x hx
  have hk : (x - 1).toNat < its.length := by omega
  obtain ⟨a1, a2⟩ := adj_it hb.1 hb.2
  have hxi : its[(x - 1).toNat]? = some (itOf its x) := by
    unfold itOf
    rw [List.getD_eq_getElem?_getD, List.getElem?_eq_getElem hk]
    rfl
  have hlen2 := (it.it _ a2).2.2
  refine ev_tup [.str (itOf its x).1, tInts ((itOf its x).2.map FF)] (ea_cons (ev_ixT (ds := [.str (itOf its x).1, tInts (itOf its x).2]) (ev_dget (k := .inl x) (ev_v e8) (ev_v e8) (spot_get hb.1 hxi)) ev_int rfl) (ea_cons (ev_tupLK ?_) ea_nil)) (by show 2 ≤ sizeLine; decide)
  rw [List.map_map]
  exact ev_lcI (fun t => .int (FF t)) (src_tup (ev_ixT (ds := [.str (itOf its x).1, tInts (itOf its x).2]) (ev_dget (k := .inl x) (ev_v e8) (ev_v e8) (spot_get hb.1 hxi)) ev_int rfl)) (by omega) e8 [(3, DicP K kk (NumD nf))] (lkc (by decide) rfl lk0) (by decide) fun t σ9 G9 ht _ e9 => ev_dget (k := .inl t) (ev_v e9) (ev_v e9) (by
    show (nf t).map PyData.int = _
    rw [hit x hx t ht]
    rfl)
end
end K3
set_option Elab.async false
set_option linter.all false
set_option maxRecDepth 100000
set_option maxHeartbeats 400000
namespace OB
open PySem PySem.Spec PyProof.Rows L2
section
variable {K : Fg} {σ : L2.St} {G G1 H : Hp} {te ta tb tc : TE} {R A B : Pr} {d e : PyData} {n i j : Nat} {l : List (Nat × Pr)} {Dn : Ends} {G0 H0 : Hp} {t u v : TS} {tt : TT}
/-- read over the whole heap; what comes is flat -/
theorem w_asgF (i : Nat) (E : Env n G σ l) (g : Gr G0 H0 G H) (h : Ev te σ H R) (fl : ∀ v G', R.r v G' → R.r v G) (hi : i < n) (k : ∀ σ' H', Env n G σ' ((i, R) :: l) → Gr G0 H0 G H' → Same H H' → Dn.nx σ' H') : tAsg te (gName i) Dn σ H :=
  h H (Same.refl H) _ fun v G' H' g' r => k _ H' (E.set hi (fl v G' r)) (g.grow g'.hh) g'.hh
theorem q_asgF (i : Nat) (E : Env n G σ l) (g : Gr G0 H0 G H) (h : Ev te σ H R) (fl : ∀ v G', R.r v G' → R.r v G) (hi : i < n) (k : ∀ σ' H', Env n G σ' ((i, R) :: l) → Gr G0 H0 G H' → Same H H' → u Dn σ' H') : tSeq (tAsg te (gName i)) u Dn σ H := w_asgF i E g h fl hi k
theorem flatS {x : Str} : ∀ v G', (D K (.str x)).r v G' → (D K (.str x)).r v G := fun v G' h => by
  cases dp_str h
  exact .str x
theorem flatI {x : Int} : ∀ v G', (D K (.int x)).r v G' → (D K (.int x)).r v G := fun v G' h => by
  cases dp_int h
  exact .int x
theorem q_ifJ {b : Bool} (J : L2.St → Hp → Prop) (h : EvT tt σ H b) (kj : ∀ σ' H', J σ' H' → u Dn σ' H') (k1 : b = true → ∀ H', Same H H' → (∀ σ' H', J σ' H' → u Dn σ' H') → t { Dn with nx := u Dn } σ H') (k2 : b = false → ∀ H', Same H H' → J σ H') : tSeq (tIfS tt t tNext) u Dn σ H :=
  q_ifF h (fun hb H' s => k1 hb H' s kj) fun hb H' s => kj σ H' (k2 hb H' s)
/-- a, b = [], c -/
theorem q_tupOwn {c : V} (i j : Nat) (E : Env n G σ l) (g : Gr G0 H0 G H) (hi : i < n) (hj : j < n) (hc : ∀ G, R.r c G)
    (k : ∀ p σ' H', H p = none → Env n G σ' ((j, R) :: (i, Rf p) :: l) → Gr G0 H0 G H' → H' p = some (.lst []) → u Dn σ' H') : tSeq (tAsg (tTup (tCons (tLst tNil) (tCons (tC c) tNil))) (gTup K 2 (gCons (gName i) (gCons (gName j) gNil)))) u Dn σ H := by
  refine ⟨Nat.zero_le _, fun p hp => ⟨by show 2 ≤ sizeLine; decide, fun q hq => ⟨q, _, rfl, SqT.of upd_same, rfl, _, _, rfl, _, _, rfl, rfl, ?_⟩⟩⟩
  have hpq : p ≠ q := fun z => by rw [z, upd_same] at hq; cases hq
  refine k p _ _ hp ((E.set hi rfl).set hj (hc G)) ((g.trans (Gr.side g.gh hp)).trans (Gr.side (g.gh.trans (same_upd hp)) hq)) ?_
  rw [upd_ne hpq, upd_same]
end
end OB
set_option Elab.async false
set_option linter.all false
set_option maxRecDepth 100000
set_option maxHeartbeats 1000000
namespace K3
open PySem L2 OB
/-! words of small letters -/
def Sm (z : Str) : Prop := ∀ c ∈ z.cps.toList, c ∈ abc.cps.toList
theorem sm_small {z : Str} (h : Sm z) : smallB z = true := List.all_eq_true.mpr fun c hc => decide_eq_true (h c hc)
theorem sm_app {a b : Str} (ha : Sm a) (hb : Sm b) : Sm (a ++ b) := fun c hc => by
  have hc : c ∈ (a.cps ++ b.cps).toList := hc
  rw [Array.toList_append, List.mem_append] at hc
  exact hc.elim (ha c) (hb c)
theorem sm_fold (z : Str) (hz : Sm z) : ∀ (ps : List Str) (acc : Array Nat), (∀ c ∈ acc.toList, c ∈ abc.cps.toList) → (∀ p ∈ ps, Sm p) → ∀ c ∈ (ps.foldl (fun acc p => acc ++ z.cps ++ p.cps) acc).toList, c ∈ abc.cps.toList
  | [], acc, h, _ => h
  | p :: ps, acc, h, hp => by
    rw [List.foldl_cons]
    refine sm_fold z hz ps _ (fun c hc => ?_) fun q hq => hp q (List.mem_cons_of_mem _ hq)
    rw [Array.toList_append, Array.toList_append, List.mem_append, List.mem_append] at hc
    rcases hc with (hc | hc) | hc
    · exact h c hc
    · exact hz c hc
    · exact hp p List.mem_cons_self c hc
theorem sm_join {z : Str} {ys : List Str} (hz : Sm z) (h : ∀ y ∈ ys, Sm y) : Sm (Txt.join z ys) := by
  cases ys with
  | nil => intro c hc; simp [Txt.join, Builtin.Str.glued, Str.empty] at hc
  | cons y ys => exact sm_fold z hz ys y.cps (h y List.mem_cons_self) fun q hq => h q (List.mem_cons_of_mem _ hq)
theorem sm_cut {z : Str} {lo hi : Option Int} (h : Sm z) : Sm (cutS z lo hi) := fun c hc => by
  have hc : c ∈ (((z.cps.toList.drop (HT.sIx z.length 0 lo)).take (HT.sIx z.length z.length hi - HT.sIx z.length 0 lo)).toArray).toList := hc
  rw [List.toList_toArray] at hc
  exact h c (List.mem_of_mem_drop (List.mem_of_mem_take hc))
theorem sm_sgn {c : Nat} (h : c ∈ abc.cps.toList) : Sm (sgn c) := fun d hd => by
  have hd : d ∈ [c] := hd
  rw [List.mem_singleton.mp hd]
  exact h
theorem sm_emp : Sm ("" : Str) := by
  have : ∀ c ∈ (("" : Str)).cps.toList, c ∈ abc.cps.toList := by decide +kernel
  exact this
theorem cut_len {z : Str} {p : Int} (hp : 0 ≤ p) : (cutS z none (some p)).length + (cutS z (some p) none).length = z.length := by
  obtain ⟨k, rfl⟩ := Int.eq_ofNat_of_zero_le hp
  have hz : z.cps.toList.length = z.length := Array.length_toList
  show (((z.cps.toList.drop 0).take (HT.sIx z.length z.length (some (k : Int)) - 0)).toArray).size + (((z.cps.toList.drop (HT.sIx z.length 0 (some (k : Int)))).take (z.length - HT.sIx z.length 0 (some (k : Int)))).toArray).size = z.length
  rw [HT.sIx_nat, HT.sIx_nat]
  simp only [List.size_toArray, List.length_take, List.length_drop, hz]
  omega
def abcAt (i : Int) : Nat := abc.cps.toList.getD i.toNat 97
theorem abc_len : abc.length = 26 := by decide +kernel
theorem abc_llen : abc.cps.toList.length = 26 := by decide +kernel
theorem abc_at {i : Int} (h0 : 0 ≤ i) (h : i < 26) : atI abc.cps.toList i = some (abcAt i) ∧ abcAt i ∈ abc.cps.toList := by
  obtain ⟨k, rfl⟩ := Int.eq_ofNat_of_zero_le h0
  have hk : k < abc.cps.toList.length := by rw [abc_llen]; omega
  unfold abcAt
  rw [Int.toNat_natCast]
  exact ⟨atI_nat (by rw [List.getElem?_eq_getElem hk, List.getD_eq_getElem?_getD, List.getElem?_eq_getElem hk]; rfl), getD_mem hk⟩
theorem mod26 (i : Int) : 0 ≤ i % 26 ∧ i % 26 < 26 := ⟨Int.emod_nonneg _ (by decide), Int.emod_lt_of_pos _ (by decide)⟩
theorem word_of {z : Str} (h1 : 1 ≤ z.length) (h2 : z.length ≤ 6) (h : Sm z) : isWord z 1 6 = true := by
  unfold isWord
  rw [decide_eq_true (by omega), decide_eq_true (by omega), sm_small h]
  rfl
def tails : Str := "ijklmnopqrst"
def triesOf (c : Nat) : List Str := tails.cps.toList.map fun t => (("z" : Str) ++ sgn c) ++ sgn t
theorem tries_nd (c : Nat) : (triesOf c).Nodup := by
  unfold triesOf List.Nodup
  rw [List.pairwise_map]
  have h : tails.cps.toList.Nodup := by decide +kernel
  refine h.imp fun {a b} hab z => hab ?_
  have e := congrArg (fun z : Str => z.cps.toList) z
  have e' : ((("z" : Str) ++ sgn c).cps ++ (sgn a).cps).toList = ((("z" : Str) ++ sgn c).cps ++ (sgn b).cps).toList := e
  rw [Array.toList_append, Array.toList_append] at e'
  have := List.append_cancel_left e'
  have h2 : [a] = [b] := this
  exact (List.cons.inj h2).1
theorem tries_len (c : Nat) : (triesOf c).length = 12 := by
  unfold triesOf
  rw [List.length_map]
  decide +kernel
theorem tries_word {c : Nat} (hc : c ∈ abc.cps.toList) {y : Str} (h : y ∈ triesOf c) : isWord y 1 6 = true ∧ y.length ≤ 6 := by
  obtain ⟨t, ht, rfl⟩ := List.mem_map.mp h
  have key : ∀ t ∈ tails.cps.toList, t ∈ abc.cps.toList := by decide +kernel
  have hl : ((("z" : Str) ++ sgn c) ++ sgn t).length = 3 := by
    rw [len_app, len_app]
    have h1 : ((("z" : Str)).length) = 1 := by decide
    rw [h1]
    rfl
  have hz : Sm ("z" : Str) := by
    have : ∀ c ∈ (("z" : Str)).cps.toList, c ∈ abc.cps.toList := by decide +kernel
    exact this
  exact ⟨word_of (by omega) (by omega) (sm_app (sm_app hz (sm_sgn hc)) (sm_sgn (key t ht))), by omega⟩
theorem some_try {c : Nat} {found : List Str} (h : found.length ≤ 11) : ∃ y, ((triesOf c).filter fun y => !decide (y ∈ found))[0]? = some y ∧ y ∈ triesOf c ∧ ¬ y ∈ found := by
  cases q : (triesOf c).filter fun y => !decide (y ∈ found) with
  | nil =>
    exfalso
    have : ∀ y ∈ triesOf c, y ∈ found := fun y hy => by
      by_cases h : y ∈ found
      · exact h
      · have : y ∈ (triesOf c).filter fun y => !decide (y ∈ found) := List.mem_filter.mpr ⟨hy, by simp [h]⟩
        rw [q] at this
        cases this
    have := List.Nodup.length_le_of_subset (tries_nd c) this
    rw [tries_len] at this
    omega
  | cons y ys =>
    have : y ∈ (triesOf c).filter fun y => !decide (y ∈ found) := by rw [q]; exact List.mem_cons_self
    obtain ⟨h1, h2⟩ := List.mem_filter.mp this
    exact ⟨y, rfl, h1, by simpa using h2⟩
def NmL (n : Nat) (l : List Str) : Prop := l.length = n ∧ l.Nodup ∧ ∀ y ∈ l, isWord y 1 6 = true ∧ y.length ≤ 6
section
variable {P : Program} {w : World} {K : Fg} {mg : Str → Option Value} {base : Heap} {σ : L2.St} {G H : Hp} {te ta tb : TE}
theorem dg4 {a b c d : Int} {x : PyData} (h : ∃ ds, DgOk ds [a, b, c, d] ∧ x = dInts ds) : ∃ p q r s, x = .list [.int p, .int q, .int r, .int s] ∧ ((0 ≤ p ∧ p < a) ∧ (0 ≤ q ∧ q < b) ∧ (0 ≤ r ∧ r < c) ∧ (0 ≤ s ∧ s < d)) := by
  obtain ⟨ds, h, rfl⟩ := h
  match ds, h with
  | [p, q, r, s], ⟨h1, h2, h3, h4, _⟩ => exact ⟨p, q, r, s, rfl, h1, h2, h3, h4⟩
theorem dg2 {a b : Int} {x : PyData} (h : ∃ ds, DgOk ds [a, b] ∧ x = dInts ds) : ∃ p q, x = .list [.int p, .int q] ∧ ((0 ≤ p ∧ p < a) ∧ (0 ≤ q ∧ q < b)) := by
  obtain ⟨ds, h, rfl⟩ := h
  match ds, h with
  | [p, q], ⟨h1, h2, _⟩ => exact ⟨p, q, rfl, h1, h2⟩
abbrev n_names : List Str := ["_law_script", "_law_k", "_law_many", "_law_found", "_law_letters", "_law_j", "_law_one", "_law_two", "_law_size", "_law_place", "_law_rest", "_law_i", "_law_sort_of", "_law_name", "_law_tries", "_law_tail", "_law_one_more"]
abbrev s_names : Stmt := top 34
theorem sc_names : FnScope n_names ["_law_script", "_law_k", "_law_many"] (defScope s_names) := ⟨rfl, rfl, rfl, by decide +kernel, rfl, by decide +kernel, by decide +kernel⟩
def sp_names (K : Fg) : Sp := spD (α := List Int × Int × Nat) (fun a => [D K (dInts a.1), D K (.int a.2.1), D K (.int (a.2.2 : Nat))]) (fun a => 0 ≤ a.2.1 ∧ a.2.2 ≤ 6) (fun a => PrE (NmL a.2.2) fun l => D K (.list (l.map .str)))
theorem ok_names (T : Tx mg) (F : Fd K mg "_law_names" s_names ["_law_script", "_law_k", "_law_many"]) (D_law_digits : Def P w K mg base "_law_digits" 2 ["_law_script", "_law_k", "_law_sizes"] (sp_digits K)) : Def P w K mg base "_law_names" 3 ["_law_script", "_law_k", "_law_many"] (sp_names K) := by
  have nd := sc_names.nd
  refine F.okD sc_names (fun _ => rfl) (fun f cdv A outer s H E Q a G hr sm pr k => ?_)
  refine ⟨_, (pss_cons (ps_asg (pe_tup (pa_cons (pe_lst pa_nil) (pa_cons pe_str pa_nil))) (pg_tup rfl (pgs_cons (pg_name (i := 3) nd rfl (Or.inr rfl)) (pgs_cons (pg_name (i := 4) nd rfl (Or.inr rfl)) pgs_nil))))
      (pss_cons (ps_for PassesOwn.never rfl (pi_range1 (by rfl) (T.nb' "range") (pa_cons (pv 2) pa_nil)) (pg_name (i := 5) nd rfl (Or.inr rfl))
      (pss_cons (ps_asg (pe_def D_law_digits hr (by rfl) (pa_cons (pv 0) (pa_cons (pe_op op_add (pv 1) (pe_op op_mod (pv 5) pe_int)) (pa_cons (pe_lst (pa_cons pe_int (pa_cons pe_int (pa_cons pe_int (pa_cons pe_int pa_nil))))) pa_nil)))) (pg_unl rfl (pgs_cons (pg_name (i := 6) nd rfl (Or.inr rfl)) (pgs_cons (pg_name (i := 7) nd rfl (Or.inr rfl)) (pgs_cons (pg_name (i := 8) nd rfl (Or.inl rfl)) (pgs_cons (pg_name (i := 9) nd rfl (Or.inl rfl)) pgs_nil))))))
      (pss_cons (ps_set (i := 10) nd rfl (Or.inl rfl) (pe_join pe_str (pe_lc (own := [("_law_i", 11)]) (g := (gName 11)) rfl nd (pi_range1 (by rfl) (T.nb' "range") (pa_cons (pv 8) pa_nil)) (blkOk_by (by kernel_rfl)) (fun _ _ _ _ _ => (pg_name (i := 11) nd rfl (Or.inl rfl))) (fun _ _ _ _ _ => pts_nil) (fun _ _ _ _ _ => (pe_ix ix_str (pv 4) (pe_op op_mod (pe_op op_add (pe_op op_add (pv 6) (pe_op op_mul (pv 11) (pv 7))) (pe_op op_mul pe_int (pv 5))) pe_int) (fun _ _ => rfl))))))
      (pss_cons (ps_set (i := 12) nd rfl (Or.inl rfl) (pe_ix ix_str (pv 4) (pe_op op_mod (pe_op op_add (pe_op op_add (pv 6) (pe_op op_mul pe_int (pv 5))) pe_int) pe_int) (fun _ _ => rfl)))
      (pss_cons (ps_set (i := 13) nd rfl (Or.inl rfl) (pe_op op_add_str (pe_op op_add_str (pe_slice sl_str (pv 10) po_none (po_some (pv 9))) (pv 12)) (pe_slice sl_str (pv 10) (po_some (pv 9)) po_none)))
      (pss_cons (ps_if (pt_cmpR op_in_seq (pv 13) (pv 3) (by rfl)) (pss_cons (ps_setLc (i := 14) (own := [("_law_tail", 15)]) (g := (gName 15)) rfl nd rfl rfl (sw_true rfl rfl rfl (by decide +kernel)) (pi_str pe_str) (blkOk_by (by kernel_rfl)) (fun _ _ _ _ _ => (pg_name (i := 15) nd rfl (Or.inl rfl))) (fun _ _ _ _ _ => pts_nil) (fun _ _ _ _ _ => (pe_op op_add_str (pe_op op_add_str pe_str (pe_ix ix_str (pv 4) (pv 5) (fun _ _ => rfl))) (pv 15))))
      (pss_one (ps_set (i := 13) nd rfl (Or.inl rfl) (pe_ix ix_list (pe_lc (own := [("_law_one_more", 16)]) (g := (gName 16)) rfl nd (pi_list (pv 14)) (blkOk_by (by kernel_rfl)) (fun _ _ _ _ _ => (pg_name (i := 16) nd rfl (Or.inl rfl))) (fun _ _ _ _ _ => (pts_one (pt_cmpR (kNotIn K) (pv 16) (pv 3) (by rfl)))) (fun _ _ _ _ _ => (pv 16))) pe_int (fun _ _ => rfl))))) pss_nil)
      (pss_one (ps_expr (pe_bm PySem.F.plainAttrs_list PySem.F.slot_list_append PySem.F.type_list_append mt_append (pv 3) (pa_cons (pv 13) pa_nil))))))))))
      (pss_one (ps_ret (pv 3))))), fun σ e => ?_⟩
  obtain ⟨ns, kk, m⟩ := a
  obtain ⟨hk, hm⟩ : 0 ≤ kk ∧ m ≤ 6 := pr
  have sz : ∀ {m : Nat}, m ≤ 1000 → m ≤ sizeLine := fun h => sz8 h
  refine q_tupOwn (R := D K (.str abc)) 3 4 e (.refl sm) (by decide) (by decide) (fun G => .str _) fun p σ1 H1 hp e1 g1 hp1 => ?_
  have pG : G p = none := sm.free hp
  refine q_forN g1.gh (src_rng (ev_v e1) (by omega) (by show ((m : Nat) : Int) < 2 ^ 62; omega)) fun G2 H2 g2 => ⟨fun j σ' G' H' => Gr G H G' H' ∧ G' p = none ∧ ∃ l, NmL j l ∧ H' p = some (.lst (l.map V.str)) ∧ Env 17 G' σ' [(3, Rf p), (4, D K (.str abc)), (0, D K (dInts ns)), (1, D K (.int kk))], ?_, ?_, ?_⟩
  · exact ⟨g1.trans g2, g2.fr p pG (by rw [hp1]; intro z; cases z), [], ⟨rfl, List.nodup_nil, by simp⟩, g2.hh _ _ hp1, (have e := e1.mono g2.gg; e.pick (e.pick (e.pick (e.pick e.nil))))⟩
  · rintro j d v σ' G' H' hj s1 s2 hd ⟨z1, z2, l, hl, z3, z4⟩
    have hjl : j < m := by
      obtain ⟨h1, _⟩ := List.getElem?_eq_some_iff.mp hj
      rw [rngD_len] at h1
      simpa using h1
    have ej : d = .int (j : Nat) := by
      rw [rngD_get (by simpa using hjl)] at hj
      exact (Option.some.inj hj).symm
    subst ej
    have e5 := z4.set (i := 5) (R := D K (.int (j : Nat))) (by decide) hd
    have hsz : ([26, 26, 6, 5] : List Int).length ≤ 100 ∧ ∀ s ∈ ([26, 26, 6, 5] : List Int), 0 < s ∧ s < 1000000 := by decide
    have hjm : 0 ≤ (j : Int) % 2 := Int.emod_nonneg _ (by decide)
    refine q_unl4 6 7 8 9 (p := fun a b c d => (0 ≤ a ∧ a < 26) ∧ (0 ≤ b ∧ b < 26) ∧ (0 ≤ c ∧ c < 6) ∧ (0 ≤ d ∧ d < 5)) e5 z1 (ev_call0 (ns, kk + (j : Int) % 2, [26, 26, 6, 5]) (ea_cons (ev_v e5) (ea_cons (ev_add (ev_v e5) (ev_mod (ev_v e5) ev_int (by decide))) (ea_cons (ev_lst [.int 26, .int 26, .int 6, .int 5] (ea_cons ev_int (ea_cons ev_int (ea_cons ev_int (ea_cons ev_int ea_nil)))) (by show 4 ≤ sizeLine; decide)) ea_nil))) ⟨by show 0 ≤ kk + (j : Int) % 2; omega, hsz⟩) (by decide) (by decide) (by decide) (by decide) (fun d hd => dg4 hd) fun one two size place hdg σ6 G6 H6 e6 g6 gg6 => ?_
    obtain ⟨h1, h2, h3, h4⟩ := hdg
    obtain ⟨sn, rfl⟩ := Int.eq_ofNat_of_zero_le h3.1
    let ys : List Str := (rngD sn).map fun d => sgn (abcAt ((one + intOf d * two + 3 * (j : Int)) % 26))
    have hyl : ys.length = sn := by show ((rngD sn).map _).length = sn; rw [List.length_map, rngD_len]
    have hy1 : ∀ y ∈ ys, y.length ≤ 1 := fun y hy => by
      obtain ⟨d, _, rfl⟩ := List.mem_map.mp hy
      exact Nat.le_refl 1
    have hys : ∀ y ∈ ys, Sm y := fun y hy => by
      obtain ⟨d, _, rfl⟩ := List.mem_map.mp hy
      exact sm_sgn (abc_at (mod26 _).1 (mod26 _).2).2
    have hsum := sum_le hy1
    have he0 : ((("" : Str)).length) = 0 := by decide
    have hlj := join_le "" ys
    rw [he0, hyl] at hlj
    rw [hyl] at hsum
    have smr : Sm (Txt.join "" ys) := sm_join (z := "") sm_emp hys
    have hlr : (Txt.join "" ys).length ≤ 5 := by omega
    refine q_asg 10 e6 g6 (R := D K (.str (Txt.join "" ys))) (ev_join ev_str ?_ (by rw [he0, hyl]; omega)) (by decide) fun σ7 G7 H7 e7 g7 gg7 => ?_
    · have e : ys.map PyData.str = (rngD sn).map fun d => PyData.str (sgn (abcAt ((one + intOf d * two + 3 * (j : Int)) % 26))) := List.map_map
      rw [e]
      have hsr := src_rng (K := K) (te := tVar 8) (ev_v (i := 8) e6) (by omega) (by show ((sn : Nat) : Int) < 2 ^ 62; omega)
      rw [show ((sn : Int)).toNat = sn from Int.toNat_natCast sn] at hsr
      refine ev_lc _ hsr (by rw [rngD_len]; omega) fun i d v G' q1 q2 q3 => ?_
      have hi : i < sn := by
        obtain ⟨h1, _⟩ := List.getElem?_eq_some_iff.mp q1
        rwa [rngD_len] at h1
      have ei : d = .int (i : Nat) := by
        rw [rngD_get hi] at q1
        exact (Option.some.inj q1).symm
      subst ei
      have e8 := (((e6.wipe1 (i := 11) (l' := [(4, D K (.str abc)), (6, D K (.int one)), (7, D K (.int two)), (5, D K (.int (j : Nat)))]) (lkc (by decide) rfl (lkc (by decide) rfl (lkc (by decide) rfl (lkc (by decide) rfl lk0))))).mono q2).set (i := 11) (R := D K (.int (i : Nat))) (by decide) q3)
      exact ⟨_, tg_name, wipe_set1, ev_ixS (ev_v e8) (ev_mod (ev_add (ev_add (ev_v e8) (ev_mul (ev_v e8) (ev_v e8) (.inr ⟨by omega, by omega⟩))) (ev_mul ev_int (ev_v e8) (.inl ⟨by decide, by decide⟩))) ev_int (by decide)) (by rw [abc_len]; decide) (abc_at (mod26 _).1 (mod26 _).2).1⟩
    generalize Txt.join "" ys = rest at smr hlr e7
    refine q_asg 12 e7 g7 (R := D K (.str (sgn (abcAt ((one + 7 * (j : Int) + 11) % 26))))) (ev_ixS (ev_v e7) (ev_mod (ev_add (ev_add (ev_v e7) (ev_mul ev_int (ev_v e7) (.inl ⟨by decide, by decide⟩))) ev_int) ev_int (by decide)) (by rw [abc_len]; decide) (abc_at (mod26 _).1 (mod26 _).2).1) (by decide) fun σ8 G8 H8 e8 g8 gg8 => ?_
    have sm1 : Sm (sgn (abcAt ((one + 7 * (j : Int) + 11) % 26))) := sm_sgn (abc_at (mod26 _).1 (mod26 _).2).2
    have hl1 : (sgn (abcAt ((one + 7 * (j : Int) + 11) % 26))).length = 1 := rfl
    generalize sgn (abcAt ((one + 7 * (j : Int) + 11) % 26)) = so at sm1 hl1 e8
    have hcl := cut_len (z := rest) h4.1
    refine q_asg 13 e8 g8 (ev_cat (ev_cat (ev_slS (ev_v e8) eo_none (eo_some (ev_v e8)) (sz (by omega))) (ev_v e8) (sz (by omega))) (ev_slS (ev_v e8) (eo_some (ev_v e8)) eo_none (sz (by omega))) (by rw [len_app]; exact sz (by omega))) (by decide) fun σ9 G9 H9 e9 g9 gg9 => ?_
    have smn : Sm ((cutS rest none (some place) ++ so) ++ cutS rest (some place) none) := sm_app (sm_app (sm_cut smr) sm1) (sm_cut smr)
    have hln : ((cutS rest none (some place) ++ so) ++ cutS rest (some place) none).length ≤ 6 ∧ 1 ≤ ((cutS rest none (some place) ++ so) ++ cutS rest (some place) none).length := by
      rw [len_app, len_app]
      omega
    generalize (cutS rest none (some place) ++ so) ++ cutS rest (some place) none = nm at smn hln e9
    have wn := word_of hln.2 hln.1 smn
    have gg := ((gg6.trans gg7).trans gg8).trans gg9
    have z3' := gg.hh _ _ z3
    have z2' : G9 p = none := gg.fr p z2 (by rw [z3]; intro z; cases z)
    have e9h := e9.mono gg9.gh
    have ea : Env 17 H9 σ9 [(3, D K (.list (l.map .str))), (13, D K (.str nm))] := Env.seeL (e9h.pick (e9h.pick e9h.nil)) z3' (dpa_strs l)
    refine q_ifJ (J := fun σ' H' => ∃ nm Ga, isWord nm 1 6 = true ∧ nm.length ≤ 6 ∧ ¬ nm ∈ l ∧ Same G' Ga ∧ Gr G H Ga H' ∧ Ga p = none ∧ H' p = some (.lst (l.map V.str)) ∧ Env 17 Ga σ' [(13, D K (.str nm)), (3, Rf p), (4, D K (.str abc)), (0, D K (dInts ns)), (1, D K (.int kk))]) (et_test (ev_inL (neg := false) (ev_v ea) (ev_v ea))) ?_ ?_ ?_
    · rintro σ' Hx ⟨nm, Ga, w1, w2, w3, w4, w5, w6, w7, w8⟩
      have hll : l.length ≤ 6 := by rw [hl.1]; omega
      refine w_append w8 w5.gh rfl w7 (by rw [List.length_map]; exact Nat.lt_of_le_of_lt hll (by decide)) (ev_v w8) fun v Gb Hb gb rb => ?_
      cases dp_str rb
      have pGb : Gb p = none := gb.fr p w6 (by rw [w7]; intro z; cases z)
      have gc : Gr G H Gb (upd Hb p (.lst (l.map V.str ++ [V.str nm]))) := (w5.trans gb).mut hp pGb
      refine ⟨Gb, (s1.trans w4).trans gb.gg, gc.gh, gc, pGb, l ++ [nm], ⟨by rw [List.length_append, hl.1]; rfl, ?_, fun y hy => ?_⟩, ?_, (have e := w8.mono gb.gg; e.pick (e.pick (e.pick (e.pick e.nil))))⟩
      · rw [List.nodup_append]
        refine ⟨hl.2.1, by simp, fun a ha b hb z => ?_⟩
        rw [List.mem_singleton.mp hb] at z
        exact w3 (z ▸ ha)
      · rcases List.mem_append.mp hy with hy | hy
        · exact hl.2.2 y hy
        · rw [List.mem_singleton.mp hy]
          exact ⟨w1, w2⟩
      · rw [List.map_append]
        exact upd_same
    · intro hb Ha sa kj
      have hj26 := abc_at (i := (j : Int)) (by omega) (by omega)
      have ga := g9.grow sa
      refine q_asg 14 e9 ga (R := D K (.list ((triesOf (abcAt (j : Int))).map .str))) ?_ (by decide) fun σa Gb Hb eb gb ggb => ?_
      · have e : (triesOf (abcAt (j : Int))).map PyData.str = (tails.cps.toList.map fun c => PyData.str (sgn c)).map fun d => PyData.str ((("z" : Str) ++ sgn (abcAt (j : Int))) ++ strOf d) := by
          unfold triesOf
          rw [List.map_map, List.map_map]
          rfl
        rw [e]
        refine ev_lc _ (src_str ev_str) (by rw [List.length_map]; decide +kernel) fun i d v G' q1 q2 q3 => ?_
        rw [List.getElem?_map] at q1
        cases q : tails.cps.toList[i]? with
        | none => rw [q] at q1; cases q1
        | some c =>
          rw [q] at q1
          cases q1
          have ez := (((e9.wipe1 (i := 15) (l' := [(4, D K (.str abc)), (5, D K (.int (j : Nat)))]) (lkc (by decide) rfl (lkc (by decide) rfl lk0))).mono q2).set (i := 15) (R := D K (.str (sgn c))) (by decide) q3)
          have hz1 : ((("z" : Str)).length) = 1 := by decide
          have hs1 : ∀ c, (sgn c).length = 1 := fun _ => rfl
          exact ⟨_, tg_name, wipe_set1, ev_cat (ev_cat ev_str (ev_ixS (ev_v ez) (ev_v ez) (by rw [abc_len]; decide) hj26.1) (by rw [hz1]; exact sz (by show 1 + 1 ≤ 1000; decide))) (ev_v ez) (by rw [len_app, hz1, hs1]; exact sz (by show 1 + 1 + 1 ≤ 1000; decide))⟩
      obtain ⟨y, y1, y2, y3⟩ := some_try (c := abcAt (j : Int)) (found := l) (by rw [hl.1]; omega)
      obtain ⟨y4, y5⟩ := tries_word hj26.2 y2
      have z3b := ggb.hh _ _ (sa _ _ z3')
      have ebh := eb.mono ggb.gh
      have ec : Env 17 Hb σa [(3, D K (.list (l.map .str))), (14, D K (.list ((triesOf (abcAt (j : Int))).map .str)))] := Env.seeL (ebh.pick (ebh.pick ebh.nil)) z3b (dpa_strs l)
      refine w_asgF 13 eb gb (R := D K (.str y)) ?_ flatS (by decide) fun σc Hc ec' gc sc => ?_
      · refine ev_ixL (ds := (((triesOf (abcAt (j : Int))).filter fun y => !decide (y ∈ l)).map .str)) ?_ ev_int (atI_nat (j := 0) (by rw [List.getElem?_map, y1]; rfl))
        have e : (((triesOf (abcAt (j : Int))).filter fun y => !decide (y ∈ l)).map PyData.str) = (((triesOf (abcAt (j : Int))).map PyData.str).filter fun d => !decide (strOf d ∈ l)).map fun d => d := by
          rw [List.filter_map, List.map_map]
          rfl
        rw [e]
        refine ev_lcF _ _ (src_list (ev_v ec)) (by rw [List.length_map, tries_len]; decide) fun i d v G' q1 q2 q3 => ?_
        rw [List.getElem?_map] at q1
        cases q : (triesOf (abcAt (j : Int)))[i]? with
        | none => rw [q] at q1; cases q1
        | some c =>
          rw [q] at q1
          cases q1
          have ez := (((ec.wipe1 (i := 16) (l' := [(3, D K (.list (l.map .str)))]) (lkc (by decide) rfl lk0)).mono q2).set (i := 16) (R := D K (.str c)) (by decide) q3)
          exact ⟨_, tg_name, wipe_set1, et_test (ev_inL (neg := true) (ev_v ez) (ev_v ez)), fun _ => ev_v ez⟩
      refine kj _ _ ⟨y, Gb, y4, y5, y3, gg.gg.trans ggb.gg, gc, ggb.fr p z2' (by rw [sa _ _ z3']; intro z; cases z), sc _ _ z3b, ec'.pick (ec'.pick (ec'.pick (ec'.pick (ec'.pick ec'.nil))))⟩
    · intro hb Ha sa
      exact ⟨nm, G9, wn, hln.1, of_decide_eq_false hb, gg.gg, g9.grow sa, z2', sa _ _ z3', e9.pick (e9.pick (e9.pick (e9.pick (e9.pick e9.nil))))⟩
  · rintro σ' G' H' s1 s2 ⟨z1, z2, l, hl, z3, z7⟩
    have hlen : (rngD ((m : Int)).toNat).length = m := by rw [rngD_len]; simp
    rw [hlen] at hl
    exact w_retL z7 z1 rfl hp z2 z3 (dpa_strs l) fun v G' H' g r => k v G' H' g ⟨l, hl, r⟩
end
end K3
set_option Elab.async false
set_option linter.all false
set_option maxRecDepth 100000
set_option maxHeartbeats 1000000
namespace OB
open PySem L2
section
variable {K : Fg} {σ : L2.St} {G G1 H : Hp} {te ta tb tc : TE} {R A B : Pr} {d e : PyData} {n i j : Nat} {l : List (Nat × Pr)} {Dn : Ends} {G0 H0 : Hp} {t u v : TS} {tt : TT}
/-- x = [a, b, ..], ours -/
theorem q_lstOwn {tA : TA} {Rs : List Pr} (i : Nat) (E : Env n G σ l) (g : Gr G0 H0 G H) (hi : i < n) (h : EvA tA σ G Rs) (hl : Rs.length ≤ sizeLine)
    (k : ∀ p vs σ' G' H', H p = none → G' p = none → Env n G' σ' ((i, Rf p) :: l) → Gr G0 H0 G' H' → Gr G H G' H' → H' p = some (.lst vs) → AllR G' vs Rs → u Dn σ' H') : tSeq (tAsg (tLst tA) (gName i)) u Dn σ H :=
  h H g.gh _ fun vs G1 H1 g1 r1 => ⟨by rw [allR_len r1]; exact hl, fun p hp => k p vs _ G1 _ (g1.hh.free hp) (g1.gh.free hp) ((E.mono g1.gg).set hi rfl) ((g.trans g1).trans (Gr.side g1.gh hp)) (g1.trans (Gr.side g1.gh hp)) upd_same r1⟩
theorem w_ifJ {b : Bool} (h : EvT tt σ H b) (k1 : b = true → ∀ H', Same H H' → t Dn σ H') (k2 : b = false → ∀ H', Same H H' → Dn.nx σ H') : tIfS tt t tNext Dn σ H := w_ifFN h k1 k2
end
end OB
namespace K3
open PySem L2 OB
def setN (ns : List Nm) (x : Str) (t : Int) : List Nm := ns.map fun p => if p.1 = x then (p.1, t) else p
theorem setN_fst (ns : List Nm) (x : Str) (t : Int) : (setN ns x t).map (·.1) = ns.map (·.1) := by
  unfold setN
  rw [List.map_map]
  exact List.map_congr_left fun p _ => by
    show (if p.1 = x then (p.1, t) else p).1 = p.1
    split <;> rfl
theorem lead_put (ns : List Nm) (x : Str) (t : Int) (h : ¬ x ∈ ns.map (·.1)) : OB.putF (LeadF ns) (.inr x) (.int t) = LeadF (ns ++ [(x, t)]) := by
  funext k
  cases k with
  | inl i => rfl
  | inr y =>
    unfold OB.putF
    rw [leadS, leadS]
    by_cases e : y = x
    · subst e
      rw [if_pos rfl]
      have : ns.lookup y = none := by
        induction ns with
        | nil => rfl
        | cons p ns ih =>
          obtain ⟨a, b⟩ := p
          rw [List.map_cons, List.mem_cons, not_or] at h
          rw [List.lookup_cons, show (y == a) = false by simpa using h.1]
          exact ih h.2
      rw [List.lookup_append, this]
      simp
    · rw [if_neg (fun z => e (by cases z; rfl)), List.lookup_append]
      cases ns.lookup y with
      | some v => rfl
      | none => rw [List.lookup_cons, show (y == x) = false by simpa using e]; rfl
theorem lead_new (ns : List Nm) (x : Str) (h : ¬ x ∈ ns.map (·.1)) : LeadF ns (.inr x) = none := by
  rw [leadS]
  have : ns.lookup x = none := by
    induction ns with
    | nil => rfl
    | cons p ns ih =>
      obtain ⟨a, b⟩ := p
      rw [List.map_cons, List.mem_cons, not_or] at h
      rw [List.lookup_cons, show (x == a) = false by simpa using h.1]
      exact ih h.2
  rw [this]
  rfl
theorem lead_set (ns : List Nm) (x : Str) (t : Int) (h : x ∈ ns.map (·.1)) : OB.putF (LeadF ns) (.inr x) (.int t) = LeadF (setN ns x t) := by
  funext k
  cases k with
  | inl i => rfl
  | inr y =>
    unfold OB.putF
    rw [leadS, leadS]
    have key : (setN ns x t).lookup y = if y = x then (if x ∈ ns.map (·.1) then some t else none) else ns.lookup y := by
      clear h
      induction ns with
      | nil => simp [setN]
      | cons p ns ih =>
        obtain ⟨a, b⟩ := p
        have e : setN ((a, b) :: ns) x t = (if a = x then (a, t) else (a, b)) :: setN ns x t := rfl
        rw [e]
        by_cases ha : a = x
        · subst ha
          rw [if_pos rfl, List.lookup_cons]
          by_cases hy : y = a
          · subst hy; simp
          · rw [show (y == a) = false by simpa using hy, ih, if_neg hy, if_neg hy, List.lookup_cons, show (y == a) = false by simpa using hy]
        · rw [if_neg ha, List.lookup_cons]
          by_cases hy : y = a
          · subst hy
            rw [if_neg ha, List.lookup_cons]
            simp
          · rw [show (y == a) = false by simpa using hy, ih, List.lookup_cons, show (y == a) = false by simpa using hy]
            by_cases hx : y = x
            · rw [if_pos hx, if_pos hx]
              have : ¬ x = a := fun z => ha z.symm
              have h2 : (x ∈ List.map (fun x : Nm => x.fst) ((a, b) :: ns)) ↔ x ∈ List.map (fun x : Nm => x.fst) ns := by
                rw [List.map_cons, List.mem_cons]
                exact or_iff_right this
              by_cases h3 : x ∈ List.map (fun x : Nm => x.fst) ns
              · rw [if_pos h3, if_pos (h2.mpr h3)]
              · rw [if_neg h3, if_neg (fun z => h3 (h2.mp z))]
            · rw [if_neg hx, if_neg hx]
    rw [key]
    by_cases e : y = x
    · subst e
      rw [if_pos rfl, if_pos rfl, if_pos h]
      rfl
    · rw [if_neg (fun z => e (by cases z; rfl)), if_neg e]
theorem lead_old {ns : List Nm} {x : Str} (h : x ∈ ns.map (·.1)) : ∃ d, LeadF ns (.inr x) = some d := by
  rw [leadS]
  cases q : ns.lookup x with
  | some v => exact ⟨_, rfl⟩
  | none =>
    exfalso
    induction ns with
    | nil => simp at h
    | cons p ns ih =>
      obtain ⟨a, b⟩ := p
      rw [List.lookup_cons] at q
      by_cases e : x = a
      · subst e; simp at q
      · rw [show (x == a) = false by simpa using e] at q
        rw [List.map_cons, List.mem_cons] at h
        exact ih (h.resolve_left e) q
theorem setN_rng {ns : List Nm} {x : Str} {t n : Int} (h : ∀ p ∈ ns, -1 ≤ p.2 ∧ p.2 ≤ n) (ht : -1 ≤ t ∧ t ≤ n) : ∀ p ∈ setN ns x t, -1 ≤ p.2 ∧ p.2 ≤ n := fun p hp => by
  obtain ⟨q, hq, rfl⟩ := List.mem_map.mp hp
  show -1 ≤ (if q.1 = x then (q.1, t) else q).2 ∧ (if q.1 = x then (q.1, t) else q).2 ≤ n
  split
  · exact ht
  · exact h q hq
theorem cutD_take {xs : List PyData} {k : Nat} : cutD xs none (some (k : Int)) = xs.take k := by
  unfold cutD
  rw [HT.sIx_nat, HT.sIx_none, List.drop_zero, Nat.sub_zero]
  by_cases h : k ≤ xs.length
  · rw [Nat.min_eq_left h]
  · rw [Nat.min_eq_right (by omega), List.take_of_length_le (by omega), List.take_of_length_le (by omega)]
def wdOf (x : Int) : Str × Nat := if x = 0 then ("list", 0) else if x = 1 then ("seg", 1) else ("cell", 2)
def wordsD : PyData := .list [.tuple [.str "list", .int 0], .tuple [.str "seg", .int 1]]
def OkIt (n : Int) (q : Item) : Prop := itemOk q n = true ∧ q.1.length ≤ 8 ∧ q.2.length ≤ 2
theorem okIt_of {x n : Int} {ts : List Int} (hl : ts.length = 2) (ht : ∀ t ∈ ts, -1 ≤ t ∧ t ≤ n) : OkIt n ((wdOf x).1, ts.take (wdOf x).2) := by
  have hall : ∀ k, (ts.take k).all (fun t => isTgt t n) = true := fun k => List.all_eq_true.mpr fun t h => isTgt_iff.mpr (ht t (List.mem_of_mem_take h))
  have c1 : isWord ("list" : Str) 2 8 = true := by decide +kernel
  have c2 : isWord ("seg" : Str) 2 8 = true := by decide +kernel
  have c3 : isWord ("cell" : Str) 2 8 = true := by decide +kernel
  have d1 : decide (("list" : Str) = "cell") = false := by decide +kernel
  have d2 : decide (("seg" : Str) = "cell") = false := by decide +kernel
  have l1 : (("list" : Str)).length ≤ 8 := by decide
  have l2 : (("seg" : Str)).length ≤ 8 := by decide
  have l3 : (("cell" : Str)).length ≤ 8 := by decide
  unfold wdOf OkIt itemOk
  split
  · refine ⟨?_, l1, by simp⟩
    simp only [c1, d1, hall, List.length_take, hl]
    decide
  · split
    · refine ⟨?_, l2, by simp [hl]⟩
      simp only [c2, d2, hall, List.length_take, hl]
      decide
    · refine ⟨?_, l3, by simp [hl]⟩
      simp only [c3, hall, List.length_take, hl]
      simp
theorem rng_mod {x n : Int} (h : 0 ≤ n) : -1 ≤ x % (n + 1) ∧ x % (n + 1) ≤ n := by
  have h1 := Int.emod_nonneg x (show n + 1 ≠ 0 by omega)
  have h2 := Int.emod_lt_of_pos x (show 0 < n + 1 by omega)
  omega
theorem set_rng {ts : List Int} {m : Nat} {x n : Int} (h : ∀ t ∈ ts, -1 ≤ t ∧ t ≤ n) (hx : -1 ≤ x ∧ x ≤ n) : ∀ t ∈ ts.set m x, -1 ≤ t ∧ t ≤ n := fun t ht => by
  rcases List.mem_or_eq_of_mem_set ht with h1 | h1
  · exact h t h1
  · rw [h1]; exact hx
theorem ix2 (x : Int) : ∃ m, ixN 2 (x % 2) = some m := by
  have : x % 2 = 0 ∨ x % 2 = 1 := by omega
  rcases this with h | h <;> rw [h]
  · exact ⟨0, rfl⟩
  · exact ⟨1, rfl⟩
section
variable {P : Program} {w : World} {K : Fg} {mg : Str → Option Value} {base : Heap} {σ : L2.St} {G H : Hp} {te ta tb : TE}
def TgJ (n : Nat) (G H G8 : Hp) (p q : Addr) (kvs : List (Key × V)) (sn : Nat) (L : List (Nat × Pr)) (σ' : L2.St) (H' : Hp) : Prop := ∃ (ts : List Int) (Gx : Hp), ts.length = 2 ∧ (∀ t ∈ ts, -1 ≤ t ∧ t ≤ (sn : Int)) ∧ Env n Gx σ' L ∧ Gx q = none ∧ Gx p = none ∧ Same G8 Gx ∧ Gr G H Gx H' ∧ H' p = some (.dK kvs) ∧ H' q = some (.lst (ts.map V.int))
theorem TgJ.set {n : Nat} {G8 Gx Gz Hx Hz : Hp} {p q : Addr} {kvs : List (Key × V)} {sn : Nat} {L : List (Nat × Pr)} {ts : List Int} {m : Nat} {x : Int} (hpq : p ≠ q) (q0 : H q = none) (t1 : ts.length = 2) (t2 : ∀ t ∈ ts, -1 ≤ t ∧ t ≤ (sn : Int)) (ex : Env n Gx σ L) (qGx : Gx q = none) (pGx : Gx p = none) (sx : Same G8 Gx) (gx : Gr G H Gx Hx) (hp : Hx p = some (.dK kvs)) (hq : Hx q = some (.lst (ts.map V.int))) (gz : Gr Gx Hx Gz Hz) (hx : -1 ≤ x ∧ x ≤ (sn : Int)) : TgJ n G H G8 p q kvs sn L σ (upd Hz q (.lst ((ts.map V.int).set m (V.int x)))) := by
  have qGz : Gz q = none := gz.fr q qGx (by rw [hq]; intro z; cases z)
  have pGz : Gz p = none := gz.fr p pGx (by rw [hp]; intro z; cases z)
  refine ⟨ts.set m x, Gz, by rw [List.length_set]; exact t1, set_rng t2 hx, ex.mono gz.gg, qGz, pGz, sx.trans gz.gg, (gx.trans gz).mut q0 qGz, ?_, ?_⟩
  · rw [upd_ne hpq]
    exact gz.hh _ _ hp
  · rw [upd_same, List.map_set]
abbrev n_raw : List Str := ["_law_script", "_law_k", "_law_words", "_law_most", "_law_many", "_law_size", "_law_lean", "_law_turning", "_law_names_here", "_law_spots_here", "_law_j", "_law_word", "_law_left", "_law_right", "_law_far", "_law_name", "_law_places", "_law_targets", "_law_leads", "_law_one", "_law_gone"]
abbrev s_raw : Stmt := top 41
theorem sc_raw : FnScope n_raw ["_law_script", "_law_k", "_law_words", "_law_most"] (defScope s_raw) := ⟨rfl, rfl, rfl, by decide +kernel, rfl, by decide +kernel, by decide +kernel⟩
def RawP (K : Fg) : Pr := PrE (fun r : Raw => Canon r ∧ r.1 ≠ []) fun r => D K (dRaw r)
def sp_raw (K : Fg) : Sp := spD (α := List Int × Int) (fun a => [D K (dInts a.1), D K (.int a.2), D K wordsD, D K (.int 6)]) (fun a => 0 ≤ a.2) (fun _ => RawP K)
theorem ok_raw (T : Tx mg) (F : Fd K mg "_law_raw" s_raw ["_law_script", "_law_k", "_law_words", "_law_most"]) (D_law_digits : Def P w K mg base "_law_digits" 2 ["_law_script", "_law_k", "_law_sizes"] (sp_digits K)) (D_law_names : Def P w K mg base "_law_names" 3 ["_law_script", "_law_k", "_law_many"] (sp_names K)) (D_law_canon : Def P w K mg base "_law_canon" 2 ["_law_leads", "_law_spots_here"] (sp_canon K)) : Def P w K mg base "_law_raw" 4 ["_law_script", "_law_k", "_law_words", "_law_most"] (sp_raw K) := by
  have nd := sc_raw.nd
  refine F.okD sc_raw (fun _ => rfl) (fun f cdv A outer s H E Q a G hr sm pr k => ?_)
  have hu := hu_of hr
  refine ⟨_, (pss_cons (ps_asg (pe_def D_law_digits hr (by rfl) (pa_cons (pv 0) (pa_cons (pv 1) (pa_cons (pe_lst (pa_cons pe_int (pa_cons (pe_op op_add (pv 3) pe_int) (pa_cons pe_int (pa_cons pe_int pa_nil))))) pa_nil)))) (pg_unl rfl (pgs_cons (pg_name (i := 4) nd rfl (Or.inl rfl)) (pgs_cons (pg_name (i := 5) nd rfl (Or.inl rfl)) (pgs_cons (pg_name (i := 6) nd rfl (Or.inl rfl)) (pgs_cons (pg_name (i := 7) nd rfl (Or.inl rfl)) pgs_nil))))))
      (pss_cons (ps_set (i := 8) nd rfl (Or.inl rfl) (pe_def D_law_names hr (by rfl) (pa_cons (pv 0) (pa_cons (pe_op op_add (pv 1) pe_int) (pa_cons (pe_op op_add pe_int (pv 4)) pa_nil)))))
      (pss_cons (ps_set (i := 9) nd rfl (Or.inl rfl) pe_dnewK)
      (pss_cons (ps_for PassesOwn.never rfl (pi_range1 (by rfl) (T.nb' "range") (pa_cons (pv 5) pa_nil)) (pg_name (i := 10) nd rfl (Or.inl rfl))
      (pss_cons (ps_asg (pe_def D_law_digits hr (by rfl) (pa_cons (pv 0) (pa_cons (pe_op op_add (pe_op op_add (pv 1) pe_int) (pv 10)) (pa_cons (pe_lst (pa_cons (pe_op op_add (pe_callB call_len_seq (by rfl) (T.nb' "len") (by decide +kernel) (pa_cons (pv 2) pa_nil)) pe_int) (pa_cons pe_int (pa_cons pe_int (pa_cons pe_int pa_nil))))) pa_nil)))) (pg_unl rfl (pgs_cons (pg_name (i := 11) nd rfl (Or.inl rfl)) (pgs_cons (pg_name (i := 12) nd rfl (Or.inl rfl)) (pgs_cons (pg_name (i := 13) nd rfl (Or.inl rfl)) (pgs_cons (pg_name (i := 14) nd rfl (Or.inl rfl)) pgs_nil))))))
      (pss_cons (ps_asg (pe_ifExp (pt_cmpR op_lt (pv 11) (pe_callB call_len_seq (by rfl) (T.nb' "len") (by decide +kernel) (pa_cons (pv 2) pa_nil)) (nomark _)) (pe_ix ix_list (pv 2) (pv 11) (fun _ _ => rfl)) (pe_tup (pa_cons pe_str (pa_cons pe_int pa_nil)))) (pg_tup rfl (pgs_cons (pg_name (i := 15) nd rfl (Or.inl rfl)) (pgs_cons (pg_name (i := 16) nd rfl (Or.inl rfl)) pgs_nil))))
      (pss_cons (ps_set (i := 17) nd rfl (Or.inl rfl) (pe_lst (pa_cons (pe_op op_mod (pv 12) (pe_op op_add (pv 5) pe_int)) (pa_cons (pe_op op_mod (pv 13) (pe_op op_add (pv 5) pe_int)) pa_nil))))
      (pss_cons (ps_if (pt_cmpR op_eq (pv 14) pe_int (nomark _)) (pss_one (ps_asg (pe_op op_sub pe_int pe_int) (pg_sub (pv 17) (pe_op op_mod (pv 12) pe_int) set_list))) pss_nil)
      (pss_cons (ps_if (PW.pt (pw_and (pt_cmpR op_gt (pv 14) pe_int (nomark _)) (pw_and1 (pt_cmpR op_gt (pv 6) pe_int (nomark _))))) (pss_one (ps_asg (pe_callB (call_min2 rfl) (by rfl) (T.nb' "min") (by decide +kernel) (pa_cons (pv 5) (pa_cons (pe_op op_add (pv 10) pe_int) pa_nil))) (pg_sub (pv 17) (pe_op op_mod (pv 13) pe_int) set_list))) pss_nil)
      (pss_one (ps_dput hu (pv 9) (pe_op op_add (pv 10) pe_int) (pe_tup (pa_cons (pv 15) (pa_cons (pe_callTy call_tuple_of (by rfl) (T.nb' "tuple") (by decide +kernel) (pa_cons (pe_slice sl_list (pv 17) po_none (po_some (pv 16))) pa_nil)) pa_nil))) rfl))))))))
      (pss_cons (ps_set (i := 18) nd rfl (Or.inl rfl) pe_dnewK)
      (pss_cons (ps_for PassesOwn.never rfl (pi_range1 (by rfl) (T.nb' "range") (pa_cons (pe_callB call_len_seq (by rfl) (T.nb' "len") (by decide +kernel) (pa_cons (pv 8) pa_nil)) pa_nil)) (pg_name (i := 10) nd rfl (Or.inl rfl))
      (pss_cons (ps_asg (pe_def D_law_digits hr (by rfl) (pa_cons (pv 0) (pa_cons (pe_op op_add (pe_op op_add (pv 1) pe_int) (pv 10)) (pa_cons (pe_lst (pa_cons pe_int (pa_cons pe_int pa_nil))) pa_nil)))) (pg_unl rfl (pgs_cons (pg_name (i := 19) nd rfl (Or.inl rfl)) (pgs_cons (pg_name (i := 20) nd rfl (Or.inl rfl)) pgs_nil))))
      (pss_one (ps_dput hu (pv 18) (pe_ix ix_list (pv 8) (pv 10) (fun _ _ => rfl)) (pe_ifExp (pt_cmpR op_eq (pv 20) pe_int (nomark _)) (pe_op op_sub pe_int pe_int) (pe_op op_mod (pe_op op_add (pv 19) (pe_op op_mul (pv 7) (pv 10))) (pe_op op_add (pv 5) pe_int))) rfl))))
      (pss_cons (ps_if (PW.pt (pw_and (pt_cmpR op_gt (pv 5) pe_int (nomark _)) (pw_and1 (pt_cmpR op_lt (pv 6) pe_int (nomark _))))) (pss_one (ps_dput hu (pv 18) (pe_ix ix_list (pv 8) pe_int (fun _ _ => rfl)) pe_int rfl)) pss_nil)
      (pss_one (ps_ret (pe_def D_law_canon hr (by rfl) (pa_cons (pv 18) (pa_cons (pv 9) pa_nil)))))))))))), fun σ e => ?_⟩
  obtain ⟨ns, kk⟩ := a
  have hk : 0 ≤ kk := pr
  have sz : ∀ {m : Nat}, m ≤ 1000 → m ≤ sizeLine := fun h => sz8 h
  have hsz1 : ([5, 7, 4, 97] : List Int).length ≤ 100 ∧ ∀ s ∈ ([5, 7, 4, 97] : List Int), 0 < s ∧ s < 1000000 := by decide
  have hsz2 : ([4, 60, 60, 12] : List Int).length ≤ 100 ∧ ∀ s ∈ ([4, 60, 60, 12] : List Int), 0 < s ∧ s < 1000000 := by decide
  have hsz3 : ([90, 9] : List Int).length ≤ 100 ∧ ∀ s ∈ ([90, 9] : List Int), 0 < s ∧ s < 1000000 := by decide
  refine q_unl4 4 5 6 7 (K := K) (p := fun a b c d => (0 ≤ a ∧ a < 5) ∧ (0 ≤ b ∧ b < 7) ∧ (0 ≤ c ∧ c < 4) ∧ (0 ≤ d ∧ d < 97)) e (.refl sm) (ev_call0 (ns, kk, [5, 7, 4, 97]) (ea_cons (ev_v e) (ea_cons (ev_v e) (ea_cons (ev_lst [.int 5, .int 7, .int 4, .int 97] (ea_cons ev_int (ea_cons ((ev_add (ev_v e) ev_int).is rfl) (ea_cons ev_int (ea_cons ev_int ea_nil)))) (by show 4 ≤ sizeLine; decide)) ea_nil))) ⟨hk, hsz1⟩) (by decide) (by decide) (by decide) (by decide) (fun d hd => dg4 hd) fun many size lean turning hdg σ1 G1 H1 e1 g1 gg1 => ?_
  obtain ⟨⟨b1, b1'⟩, ⟨b2, b2'⟩, ⟨b3, b3'⟩, ⟨b4, b4'⟩⟩ := hdg
  obtain ⟨mn, rfl⟩ := Int.eq_ofNat_of_zero_le b1
  obtain ⟨sn, rfl⟩ := Int.eq_ofNat_of_zero_le b2
  refine q_asg 8 e1 g1 (ev_call0 (ns, kk + 1, 1 + mn) (ea_cons (ev_v e1) (ea_cons (ev_add (ev_v e1) ev_int) (ea_cons ((ev_add ev_int (ev_v e1)).is (by show PyData.int (1 + (mn : Int)) = .int ((1 + mn : Nat) : Int); rw [Int.natCast_add]; rfl)) ea_nil))) ⟨by show 0 ≤ kk + 1; omega, by show 1 + mn ≤ 6; omega⟩) (by decide) fun σ2 G2 H2 e2 g2 gg2 => ?_
  obtain ⟨nms, hnm, e2⟩ := Env.open e2
  have hnm : NmL (1 + mn) nms := hnm
  refine q_newD 9 e2 g2 (by decide) fun p σ3 H3 hp e3 g3 hH3 => ?_
  have p0 : H p = none := g2.hh.free hp
  have pG : G2 p = none := g2.gh.free hp
  have hp3 : H3 p = some (.dK []) := by rw [hH3, upd_same]
  refine q_forN g3.gh (src_rng (ev_v e3) (by omega) (by show ((sn : Nat) : Int) < 2 ^ 62; omega)) fun G4 H4 g4 => ⟨fun j σ' G' H' => Gr G H G' H' ∧ G' p = none ∧ ∃ kvs ks its, H' p = some (.dK kvs) ∧ DicAt K G' kvs ks (SpotF its) ∧ ks.length = its.length ∧ its.length = j ∧ (∀ q ∈ its, OkIt (sn : Int) q) ∧ Env 21 G' σ' [(9, Rf p), (0, D K (dInts ns)), (1, D K (.int kk)), (2, D K wordsD), (5, D K (.int (sn : Nat))), (6, D K (.int lean)), (7, D K (.int turning)), (8, D K (.list (nms.map .str)))], ?_, ?_, ?_⟩
  · refine ⟨g3.trans g4, g4.fr p pG (by rw [hp3]; intro z; cases z), [], [], [], g4.hh _ _ hp3, ⟨rfl, fun k => ?_⟩, rfl, rfl, by simp, (have e := e3.mono g4.gg; e.pick (e.pick (e.pick (e.pick (e.pick (e.pick (e.pick (e.pick e.nil))))))))⟩
    cases k with
    | inr x => trivial
    | inl t =>
      show OptD K G4 none (SpotF [] (.inl t))
      rw [spotI]
      split
      · simp [OptD]
      · trivial
  · rintro j d v σ' G' H' hj s1 s2 hd ⟨z1, z2, kvs, ks, its, z3, z4, z5, z6, z7, z8⟩
    have hjl : j < sn := by
      obtain ⟨h1, _⟩ := List.getElem?_eq_some_iff.mp hj
      rw [rngD_len] at h1
      simpa using h1
    have ej : d = .int (j : Nat) := by
      rw [rngD_get (by simpa using hjl)] at hj
      exact (Option.some.inj hj).symm
    subst ej
    have e5 := z8.set (i := 10) (R := D K (.int (j : Nat))) (by decide) hd
    refine q_unl4 11 12 13 14 (K := K) (p := fun a b c d => (0 ≤ a ∧ a < 4) ∧ (0 ≤ b ∧ b < 60) ∧ (0 ≤ c ∧ c < 60) ∧ (0 ≤ d ∧ d < 12)) e5 z1 (ev_call0 (ns, kk + 2 + (j : Int), [4, 60, 60, 12]) (ea_cons (ev_v e5) (ea_cons (ev_add (ev_add (ev_v e5) ev_int) (ev_v e5)) (ea_cons (ev_lst [.int 4, .int 60, .int 60, .int 12] (ea_cons ((ev_add (ev_lenL (ds := [.tuple [.str "list", .int 0], .tuple [.str "seg", .int 1]]) (ev_v e5)) ev_int).is rfl) (ea_cons ev_int (ea_cons ev_int (ea_cons ev_int ea_nil)))) (by show 4 ≤ sizeLine; decide)) ea_nil))) ⟨by show 0 ≤ kk + 2 + (j : Int); omega, hsz2⟩) (by decide) (by decide) (by decide) (by decide) (fun d hd => dg4 hd) fun word left right far hdg σ6 G6 H6 e6 g6 gg6 => ?_
    obtain ⟨⟨c1, c1'⟩, ⟨c2, c2'⟩, ⟨c3, c3'⟩, ⟨c4, c4'⟩⟩ := hdg
    refine q_tup2 15 16 (K := K) (d1 := .str (wdOf word).1) (d2 := .int ((wdOf word).2 : Nat)) e6 g6 (ev_if (et_test (ev_lt (ev_v e6) (ev_lenL (ds := [.tuple [.str "list", .int 0], .tuple [.str "seg", .int 1]]) (ev_v e6)))) (fun hb => ?_) fun hb => ?_) (by decide) (by decide) fun σ7 G7 H7 e7 g7 gg7 => ?_
    · have hb : word < 2 := of_decide_eq_true hb
      have : word = 0 ∨ word = 1 := by omega
      rcases this with rfl | rfl
      · exact ev_ixL (ds := [.tuple [.str "list", .int 0], .tuple [.str "seg", .int 1]]) (ev_v e6) (ev_v e6) rfl
      · exact ev_ixL (ds := [.tuple [.str "list", .int 0], .tuple [.str "seg", .int 1]]) (ev_v e6) (ev_v e6) rfl
    · have hb : ¬ word < 2 := of_decide_eq_false hb
      have ew : wdOf word = (("cell" : Str), 2) := by
        unfold wdOf
        rw [if_neg (by omega), if_neg (by omega)]
      rw [ew]
      exact ev_tup [.str "cell", .int 2] (ea_cons ev_str (ea_cons ev_int ea_nil)) (by show 2 ≤ sizeLine; decide)
    refine q_lstOwn (Rs := [D K (.int (left % ((sn : Int) + 1))), D K (.int (right % ((sn : Int) + 1)))]) 17 e7 g7 (by decide) (ea_cons (ev_mod (ev_v e7) (ev_add (ev_v e7) ev_int) (by omega)) (ea_cons (ev_mod (ev_v e7) (ev_add (ev_v e7) ev_int) (by omega)) ea_nil)) (by show 2 ≤ sizeLine; decide) fun q vs σ8 G8 H8 hq qG8 e8 g8 gg8 hq8 al8 => ?_
    have q0 : H q = none := g7.hh.free hq
    have ggp := gg6.trans (gg7.trans gg8)
    have pG8 : G8 p = none := ggp.fr p z2 (by rw [z3]; intro z; cases z)
    have hp8 := ggp.hh _ _ z3
    have hpq : p ≠ q := fun z => by rw [z, hq8] at hp8; cases hp8
    have hvs : vs = [left % ((sn : Int) + 1), right % ((sn : Int) + 1)].map V.int := by
      match vs, al8 with
      | [x, y], ⟨r1, r2, _⟩ =>
        cases dp_int r1
        cases dp_int r2
        rfl
    have hE8 : Env 21 G8 σ8 [(17, Rf q), (16, D K (.int ((wdOf word).2 : Nat))), (15, D K (.str (wdOf word).1)), (14, D K (.int far)), (13, D K (.int right)), (12, D K (.int left)), (10, D K (.int (j : Nat))), (9, Rf p), (0, D K (dInts ns)), (1, D K (.int kk)), (2, D K wordsD), (5, D K (.int (sn : Nat))), (6, D K (.int lean)), (7, D K (.int turning)), (8, D K (.list (nms.map .str)))] := e8.pick (e8.pick (e8.pick (e8.pick (e8.pick (e8.pick (e8.pick (e8.pick (e8.pick (e8.pick (e8.pick (e8.pick (e8.pick (e8.pick (e8.pick e8.nil))))))))))))))
    have hd8 := z4.mono ggp.gg
    have ss : Same G4 G8 := s1.trans ggp.gg
    refine q_ifJ (J := TgJ 21 G H G8 p q kvs sn _) (et_test (ev_eqI (ev_v (hE8.mono g8.gh)) ev_int)) ?_ (fun hb Ha sa kj => ?_) fun hb Ha sa => ⟨_, G8, rfl, fun t ht => ?_, hE8, qG8, pG8, Same.refl _, g8.grow sa, sa _ _ hp8, by rw [← hvs]; exact sa _ _ hq8⟩
    · rintro σ' H9 ⟨ts, Gx, t1, t2, ex, qGx, pGx, sx, gx, hpx, hqx⟩
      refine q_ifJ (J := TgJ 21 G H G8 p q kvs sn _) (et_and (et_test (ev_gt (ev_v (ex.mono gx.gh)) ev_int)) fun _ => et_test (ev_gt (ev_v (ex.mono gx.gh)) ev_int)) ?_ (fun hb Ha sa kj => ?_) fun hb Ha sa => ⟨ts, Gx, t1, t2, ex, qGx, pGx, sx, gx.grow sa, sa _ _ hpx, sa _ _ hqx⟩
      · clear ex qGx pGx sx gx hpx hqx t1 t2
        rintro σ' H9 ⟨ts, Gx, t1, t2, ex, qGx, pGx, sx, gx, hpx, hqx⟩
        have ey := Env.freezeL ex qGx (dpa_ints (K := K) ts)
        have gy := gx.freeze q0 qGx hqx
        have sy : Same Gx (upd Gx q (.lst (ts.map V.int))) := same_upd qGx
        have pGy : (upd Gx q (.lst (ts.map V.int))) p = none := by rw [upd_ne hpq]; exact pGx
        generalize upd Gx q (.lst (ts.map V.int)) = Gy at ey gy sy pGy
        have hcut : cutD (ts.map PyData.int) none (some ((wdOf word).2 : Nat)) = (ts.take (wdOf word).2).map PyData.int := by rw [cutD_take, List.map_take]
        refine w_dput (K := K) (key := .inl ((j : Int) + 1)) (R := D K (dIt ((wdOf word).1, ts.take (wdOf word).2))) ey gy.gh rfl hpx (by rw [z4.len, z5, z6]; exact Nat.lt_of_le_of_lt (by omega : j ≤ 1000) (by decide)) (ev_tup [.str (wdOf word).1, tInts (ts.take (wdOf word).2)] (ea_cons (ev_v ey) (ea_cons (ev_tupL ((ev_slL (ev_v ey) eo_none (eo_some (ev_v ey))).is (by rw [hcut]))) ea_nil)) (by show 2 ≤ sizeLine; decide)) (ev_add (ev_v ey) ev_int) fun v9 Gz Hz gz rz => ?_
        have pGz : Gz p = none := gz.fr p pGy (by rw [hpx]; intro z; cases z)
        have gz' : Gr G H Gz (upd Hz p (.dK (putK kvs (.inl ((j : Int) + 1)) v9))) := (gy.trans gz).mut p0 pGz
        have hn : SpotF its (.inl ((j : Int) + 1)) = none := by
          have := spot_new its
          rw [z6] at this
          exact this
        have hdz := (hd8.mono (sx.trans (sy.trans gz.gg))).putN hn rz
        have hs := spot_put its ((wdOf word).1, ts.take (wdOf word).2)
        rw [z6] at hs
        rw [hs] at hdz
        refine ⟨Gz, ss.trans (sx.trans (sy.trans gz.gg)), gz'.gh, gz', pGz, _, _, _, upd_same, hdz, by rw [List.length_append, List.length_append, z5]; rfl, by rw [List.length_append, z6]; rfl, fun y hy => ?_, (have e := ey.mono gz.gg; e.pick (e.pick (e.pick (e.pick (e.pick (e.pick (e.pick (e.pick e.nil))))))))⟩
        rcases List.mem_append.mp hy with hy | hy
        · exact z7 y hy
        · rw [List.mem_singleton.mp hy]
          exact okIt_of t1 t2
      · obtain ⟨m, hm⟩ := ix2 right
        refine w_setL (K := K) ex (gx.grow sa).gh rfl (sa _ _ hqx) (ev_min2 (ev_v ex) (ev_add (ev_v ex) ev_int)) (ev_mod (ev_v ex) ev_int (by decide)) (by rw [List.length_map, t1]; exact hm) fun v9 Gz Hz gz rz => ?_
        cases dp_int rz
        exact kj _ _ (TgJ.set hpq q0 t1 t2 ex qGx pGx sx (gx.grow sa) (sa _ _ hpx) (sa _ _ hqx) gz (by split <;> omega))
    · obtain ⟨m, hm⟩ := ix2 left
      refine w_setL (K := K) (R := D K (.int (-1))) hE8 (g8.grow sa).gh rfl (sa _ _ hq8) ((ev_sub ev_int ev_int).is rfl) (ev_mod (ev_v hE8) ev_int (by decide)) (by rw [hvs]; exact hm) fun v9 Gz Hz gz rz => ?_
      cases dp_int rz
      rw [hvs]
      exact kj _ _ (TgJ.set hpq q0 rfl (fun t ht => by
        rcases List.mem_cons.mp ht with rfl | ht
        · exact rng_mod (by omega)
        · rw [List.mem_singleton.mp ht]
          exact rng_mod (by omega)) hE8 qG8 pG8 (Same.refl _) (g8.grow sa) (sa _ _ hp8) (by rw [← hvs]; exact sa _ _ hq8) gz (by omega))
    · rcases List.mem_cons.mp ht with rfl | ht
      · exact rng_mod (by omega)
      · rw [List.mem_singleton.mp ht]
        exact rng_mod (by omega)
  rintro σ5 G5 H5 s1 s2 ⟨z1, z2, kvs, ks, its, z3, z4, z5, z6, z7, z8⟩
  have hlen : (rngD ((sn : Int)).toNat).length = sn := by rw [rngD_len]; simp
  rw [hlen] at z6
  refine q_newD 18 z8 z1 (by decide) fun q σ6 H6 hq e6 g6 hH6 => ?_
  have q0 : H q = none := z1.hh.free hq
  have qG : G5 q = none := z1.gh.free hq
  have hq6 : H6 q = some (.dK []) := by rw [hH6, upd_same]
  have hpq : p ≠ q := fun z => by rw [z, hq] at z3; cases z3
  have hp6 : H6 p = some (.dK kvs) := by rw [hH6, upd_ne hpq]; exact z3
  have hnl : nms.length = 1 + mn := hnm.1
  refine q_forN g6.gh (src_rng (ev_lenL (ev_v e6)) (by omega) (by rw [List.length_map]; show ((nms.length : Nat) : Int) < 2 ^ 62; omega)) fun G7 H7 g7 => ⟨fun j σ' G' H' => Gr G H G' H' ∧ G' p = none ∧ G' q = none ∧ H' p = some (.dK kvs) ∧ Same G5 G' ∧ ∃ kq ls, H' q = some (.dK kq) ∧ DicAt K G' kq (nKeys ls) (LeadF ls) ∧ ls.map (·.1) = nms.take j ∧ (∀ y ∈ ls, -1 ≤ y.2 ∧ y.2 ≤ (sn : Int)) ∧ Env 21 G' σ' [(18, Rf q), (9, Rf p), (0, D K (dInts ns)), (1, D K (.int kk)), (5, D K (.int (sn : Nat))), (6, D K (.int lean)), (7, D K (.int turning)), (8, D K (.list (nms.map .str)))], ?_, ?_, ?_⟩
  · exact ⟨g6.trans g7, g7.fr p z2 (by rw [hp6]; intro z; cases z), g7.fr q qG (by rw [hq6]; intro z; cases z), g7.hh _ _ hp6, g7.gg, [], [], g7.hh _ _ hq6, ⟨rfl, fun k => by cases k <;> trivial⟩, rfl, by simp, (have e := e6.mono g7.gg; e.pick (e.pick (e.pick (e.pick (e.pick (e.pick (e.pick (e.pick e.nil))))))))⟩
  · rintro j d v σ' G' H' hj t1 t2 hd ⟨y1, y2, y3, y4, y5, kq, ls, y6, y7, y8, y9, y10⟩
    have hjl : j < nms.length := by
      obtain ⟨h1, _⟩ := List.getElem?_eq_some_iff.mp hj
      rw [rngD_len] at h1
      simpa using h1
    have ej : d = .int (j : Nat) := by
      rw [rngD_get (by simpa using hjl)] at hj
      exact (Option.some.inj hj).symm
    subst ej
    have hx : nms[j]? = some nms[j] := by simp [hjl]
    generalize nms[j] = x at hx
    have e8 := y10.set (i := 10) (R := D K (.int (j : Nat))) (by decide) hd
    refine q_unl2 19 20 (K := K) (p := fun a b => (0 ≤ a ∧ a < 90) ∧ (0 ≤ b ∧ b < 9)) e8 y1 (ev_call0 (ns, kk + 3 + (j : Int), [90, 9]) (ea_cons (ev_v e8) (ea_cons (ev_add (ev_add (ev_v e8) ev_int) (ev_v e8)) (ea_cons (ev_lst [.int 90, .int 9] (ea_cons ev_int (ea_cons ev_int ea_nil)) (by show 2 ≤ sizeLine; decide)) ea_nil))) ⟨by show 0 ≤ kk + 3 + (j : Int); omega, hsz3⟩) (by decide) (by decide) (fun d hd => dg2 hd) fun one gone hdg σ9 G9 H9 e9 g9 gg9 => ?_
    let t : Int := if gone = 0 then -1 else (one + turning * (j : Int)) % ((sn : Int) + 1)
    have ht : -1 ≤ t ∧ t ≤ (sn : Int) := by
      show -1 ≤ (if gone = 0 then -1 else (one + turning * (j : Int)) % ((sn : Int) + 1)) ∧ (if gone = 0 then -1 else (one + turning * (j : Int)) % ((sn : Int) + 1)) ≤ (sn : Int)
      split
      · omega
      · exact rng_mod (by omega)
    have hlsl : ls.length ≤ 10 := by
      have := congrArg List.length y8
      rw [List.length_map, List.length_take] at this
      omega
    refine w_dput (K := K) (key := .inr x) (R := D K (.int t)) e9 g9.gh rfl (gg9.hh _ _ y6) (by rw [y7.len]; unfold nKeys; rw [List.length_map, List.length_map]; exact Nat.lt_of_le_of_lt hlsl (by decide)) (ev_if (et_test (ev_eqI (ev_v e9) ev_int)) (fun hb => (ev_sub ev_int ev_int).is ?_) fun hb => (ev_mod (ev_add (ev_v e9) (ev_mul (ev_v e9) (ev_v e9) (.inl ⟨by omega, by omega⟩))) (ev_add (ev_v e9) ev_int) (by omega)).is ?_) (ev_ixL (ev_v e9) (ev_v e9) (atI_nat (by rw [List.getElem?_map, hx]; rfl))) fun v9 Gz Hz gz rz => ?_
    · have : gone = 0 := of_decide_eq_true hb
      show PyData.int (0 - 1) = PyData.int (if gone = 0 then -1 else _)
      rw [if_pos this]
      rfl
    · have : ¬ gone = 0 := of_decide_eq_false hb
      show PyData.int ((one + turning * (j : Int)) % ((sn : Int) + 1)) = PyData.int (if gone = 0 then -1 else (one + turning * (j : Int)) % ((sn : Int) + 1))
      rw [if_neg this]
    have gg := gg9.trans gz
    have pGz : Gz p = none := gg.fr p y2 (by rw [y4]; intro z; cases z)
    have qGz : Gz q = none := gg.fr q y3 (by rw [y6]; intro z; cases z)
    have gz' := (g9.trans gz).mut (o := .dK (putK kq (.inr x) v9)) q0 qGz
    have hnew : ¬ x ∈ ls.map (·.1) := by
      rw [y8]
      intro z
      obtain ⟨i, hi, hxi⟩ := List.mem_iff_getElem.mp z
      rw [List.length_take] at hi
      rw [List.getElem_take] at hxi
      obtain ⟨h1, h2⟩ := List.getElem?_eq_some_iff.mp hx
      exact (List.pairwise_iff_getElem.mp hnm.2.1) i j (by omega) h1 (by omega) (by rw [hxi, h2])
    have hdz := (y7.mono gg.gg).putN (lead_new ls x hnew) rz
    rw [lead_put ls x t hnew] at hdz
    refine ⟨Gz, t1.trans gg.gg, gz'.gh, gz', pGz, qGz, by rw [upd_ne hpq]; exact gg.hh _ _ y4, y5.trans gg.gg, _, ls ++ [(x, t)], upd_same, ?_, ?_, fun y hy => ?_, (have e := e9.mono gz.gg; e.pick (e.pick (e.pick (e.pick (e.pick (e.pick (e.pick (e.pick e.nil))))))))⟩
    · unfold nKeys at hdz ⊢
      rw [List.map_append, List.map_append]
      exact hdz
    · rw [List.map_append, y8, take_snoc hx]
      rfl
    · rcases List.mem_append.mp hy with hy | hy
      · exact y9 y hy
      · rw [List.mem_singleton.mp hy]
        exact ht
  rintro σ8 G8 H8 t1 t2 ⟨y1, y2, y3, y4, y5, kq, ls, y6, y7, y8, y9, y10⟩
  have hlen2 : (rngD ((↑(List.map PyData.str nms).length : Int)).toNat).length = nms.length := by rw [rngD_len]; simp
  rw [hlen2, List.take_length] at y8
  refine q_ifJ (J := fun σ' H' => ∃ Gx kq ls, Gr G H Gx H' ∧ Gx p = none ∧ Gx q = none ∧ H' p = some (.dK kvs) ∧ Same G5 Gx ∧ H' q = some (.dK kq) ∧ DicAt K Gx kq (nKeys ls) (LeadF ls) ∧ ls.map (·.1) = nms ∧ (∀ y ∈ ls, -1 ≤ y.2 ∧ y.2 ≤ (sn : Int)) ∧ Env 21 Gx σ' [(18, Rf q), (9, Rf p)]) (et_and (et_test (ev_gt (ev_v (y10.mono y1.gh)) ev_int)) fun _ => et_test (ev_lt (ev_v (y10.mono y1.gh)) ev_int)) ?_ (fun hb Ha sa kj => ?_) fun hb Ha sa => ⟨G8, kq, ls, y1.grow sa, y2, y3, sa _ _ y4, y5, sa _ _ y6, y7, y8, y9, y10.pick (y10.pick y10.nil)⟩
  · rintro σ9 H9 ⟨Gx, kq, ls, x1, x2, x3, x4, x5, x6, x7, x8, x9, x10⟩
    have f1 := Env.freezeD x10 x3 x7
    have w1 := x1.freeze q0 x3 x6
    have pGy : (upd Gx q (.dK kq)) p = none := by rw [upd_ne hpq]; exact x2
    have sy : Same Gx (upd Gx q (.dK kq)) := same_upd x3
    generalize upd Gx q (.dK kq) = Gy at f1 w1 pGy sy
    have hdp := z4.mono (x5.trans sy)
    have f2 : Env 21 Gy σ9 [(9, Rf p), (18, LeadP K ls)] := f1.pick (f1.pick f1.nil)
    have f3 := Env.freezeD f2 pGy hdp
    have w2 := w1.freeze p0 pGy x4
    have hll : ls.length = 1 + mn := by rw [← List.length_map (f := fun p : Nm => p.1), x8, hnl]
    have nmok : NamesOk ls := ⟨by omega, fun y hy => hnm.2.2 y.1 (by rw [← x8]; exact List.mem_map_of_mem hy), by rw [x8]; exact hnm.2.1⟩
    have itok : ItemsOk ls its := ⟨by omega, fun y hy => by rw [z6]; exact z7 y hy, fun y hy => by rw [z6]; exact isTgt_iff.mpr (x9 y hy), by omega⟩
    exact w_ret w2 (ev_call0 (ls, its, ks) (ea_cons (ev_v f3) (ea_cons (ev_v f3) ea_nil)) ⟨nmok, itok, z5⟩) fun v G' H' g ⟨r, ⟨hC, hl1, _⟩, hr⟩ => k v G' H' g ⟨r, ⟨hC, fun z => by rw [z] at hl1; have : (0 : Nat) = ls.length := hl1; omega⟩, hr⟩
  · have hx : nms[0]? = some nms[0] := by simp
    generalize nms[0] = x at hx
    have hxm : x ∈ ls.map (·.1) := by rw [y8]; exact List.mem_of_getElem? hx
    have hlsl : ls.length ≤ 10 := by
      have := congrArg List.length y8
      rw [List.length_map] at this
      omega
    have hsn : 1 ≤ (sn : Int) := by
      rw [Bool.and_eq_true] at hb
      have : 0 < (sn : Int) := of_decide_eq_true hb.1
      omega
    refine w_dput (K := K) (key := .inr x) (R := D K (.int 1)) y10 (y1.grow sa).gh rfl (sa _ _ y6) (by rw [y7.len]; unfold nKeys; rw [List.length_map, List.length_map]; exact Nat.lt_of_le_of_lt hlsl (by decide)) ev_int (ev_ixL (ev_v y10) ev_int (atI_nat (j := 0) (by rw [List.getElem?_map, hx]; rfl))) fun v9 Gz Hz gz rz => ?_
    have pGz : Gz p = none := gz.fr p y2 (by rw [sa _ _ y4]; intro z; cases z)
    have qGz : Gz q = none := gz.fr q y3 (by rw [sa _ _ y6]; intro z; cases z)
    have gz' := ((y1.grow sa).trans gz).mut (o := .dK (putK kq (.inr x) v9)) q0 qGz
    obtain ⟨dd, hdd⟩ := lead_old hxm
    have hdz := (y7.mono gz.gg).putO hdd rz
    rw [lead_set ls x 1 hxm] at hdz
    refine kj _ _ ⟨Gz, _, setN ls x 1, gz', pGz, qGz, by rw [upd_ne hpq]; exact gz.hh _ _ (sa _ _ y4), y5.trans gz.gg, upd_same, ?_, by rw [setN_fst, y8], setN_rng y9 ⟨by omega, hsn⟩, (have e := y10.mono gz.gg; e.pick (e.pick e.nil))⟩
    unfold nKeys at hdz ⊢
    rw [setN_fst]
    exact hdz
end
end K3
set_option Elab.async false
set_option linter.all false
set_option maxRecDepth 100000
set_option maxHeartbeats 1000000
namespace K3
open PySem L2 OB
section
variable {P : Program} {w : World} {K : Fg} {mg : Str → Option Value} {base : Heap} {σ : L2.St} {G H : Hp} {te ta tb : TE} {C : Addr}
/-! making webs -/
theorem fs_of (u1 u2 : V) : L2.putF "item_pairs" u2 (L2.putF "name_pairs" u1 []) = [(("name_pairs" : Str), u1), (("item_pairs" : Str), u2)] := by kernel_rfl
theorem webP_of {G' : Hp} {x dx : Addr} {u1 u2 : V} {r : Raw} (h : G' x = some (.ins C dx (L2.putF "item_pairs" u2 (L2.putF "name_pairs" u1 [])))) (h1 : Dp K G' u1 (.tuple (r.1.map OB.dNm))) (h2 : Dp K G' u2 (.tuple (r.2.map dIt))) : (WebP K C r).r (.ref x) G' := by
  rw [fs_of] at h
  have ne : (("item_pairs" : Str) == ("name_pairs" : Str)) = false := by decide +kernel
  refine ⟨x, dx, _, u1, u2, rfl, h, by show 2 ≤ 2; decide, ?_, ?_, fun m m1 m2 => ?_, h1, h2⟩
  · rw [List.lookup_cons]; simp
  · rw [List.lookup_cons, ne, List.lookup_cons]; simp
  · rw [List.lookup_cons, show (m == ("name_pairs" : Str)) = false by simpa using m1, List.lookup_cons, show (m == ("item_pairs" : Str)) = false by simpa using m2]
    rfl
def NmsP (K : Fg) (names : List Nm) : Pr := ⟨fun v G => Dp K G v (dNames names) ∨ Dp K G v (.tuple (names.map OB.dNm)), fun v _ _ e h => h.elim (fun h => .inl (dp_mono e _ _ h)) fun h => .inr (dp_mono e _ _ h)⟩
def ItsP (K : Fg) (items : List Item) : Pr := ⟨fun v G => Dp K G v (dItems items) ∨ Dp K G v (.tuple (items.map dIt)), fun v _ _ e h => h.elim (fun h => .inl (dp_mono e _ _ h)) fun h => .inr (dp_mono e _ _ h)⟩
theorem ev_make {tA : TA} {names : List Nm} {items : List Item} {dvs : List V} {Rs Ds : List Pr} (h : EvA tA σ G Rs) (hd : ∀ G, AllR G dvs Ds) (e : Rs ++ Ds = [NmsP K names, ItsP K items]) (W : WebOk names items) : Ev (tMake C (sp_init K C) dvs E0 tA) σ G (PrE (Made names items) fun r => WebP K C r) := fun H s Q q =>
  h H s _ fun vs G1 H1 g1 r1 x dx hx hdx hne => by
    have app : AllR G1 (vs ++ dvs) (Rs ++ Ds) := allR_app r1 (hd G1)
    rw [e] at app
    match hv : vs ++ dvs, app with
    | [v1, v2], ⟨a1, a2, _⟩ =>
      have nx : x ≠ dx := fun z => hne z.symm
      have s1 : Same G1 (upd (upd H1 dx (.own x)) x (.ins C dx [])) := (g1.gh.trans (same_upd hdx)).trans (same_upd (by rw [upd_ne nx]; exact hx))
      refine ⟨x, dx, v1, v2, names, items, G1, rfl, upd_same, s1, g1.gh.free hx, a1, a2, W, fun H' G' r u1 u2 M z1 z2 z3 z4 z5 z6 z7 z8 => ⟨rfl, ?_⟩⟩
      have sG : Same G' (upd G' x (.ins C dx (L2.putF "item_pairs" u2 (L2.putF "name_pairs" u1 [])))) := same_upd z3
      have gg : Gr G1 H1 (upd G' x (.ins C dx (L2.putF "item_pairs" u2 (L2.putF "name_pairs" u1 [])))) H' := by
        refine ⟨z1.trans sG, fun b o hb => ?_, fun b o hb => ?_, fun p hp hp2 => ?_⟩
        · by_cases hbx : b = x
          · subst hbx
            rw [upd_same] at hb
            cases hb
            exact z6
          · rw [upd_ne hbx] at hb
            exact z2 b o hb
        · have hbx : b ≠ x := ne_of_none hb hx
          have hbd : b ≠ dx := ne_of_none hb hdx
          exact z4 b o hbx (by rw [upd_ne hbx, upd_ne hbd]; exact hb)
        · have hpx : p ≠ x := fun z => hp2 (z ▸ hx)
          have hpd : p ≠ dx := fun z => hp2 (z ▸ hdx)
          rw [upd_ne hpx]
          exact z5 p hp (by rw [upd_ne hpx, upd_ne hpd]; exact hp2)
      exact q _ _ _ (g1.trans gg) ⟨r, M, webP_of upd_same (dp_mono sG _ _ z7) (dp_mono sG _ _ z8)⟩
/-! _law_made -/
abbrev s_made : Stmt := top 38
theorem sc_made : FnScope ["_law_raw_here"] ["_law_raw_here"] (defScope s_made) := ⟨rfl, rfl, rfl, by decide +kernel, rfl, by decide +kernel, by decide +kernel⟩
def sp_made (K : Fg) (C : Addr) : Sp := spD (α := Raw) (fun a => [D K (dRaw a)]) (fun a => WebOk a.1 a.2) (fun a => PrE (Made a.1 a.2) fun r => WebP K C r)
theorem ok_made {fi : Addr} {fdi : FuncData} (T : Tx mg) (mgC : mg "Web" = some (.ref C)) (M : Mk K C fi) (Fi : FnOk P w K mg base CX0 4 fi fdi ["self", "names", "items"] (sp_init K C)) (hb : Binds K fdi ["self", "names", "items"] []) (F : Fd K mg "_law_made" s_made ["_law_raw_here"]) : Def P w K mg base "_law_made" 6 ["_law_raw_here"] (sp_made K C) := by
  refine F.okD sc_made (fun _ => rfl) (fun f cdv A outer s H E Q r G hr sm pr k => ?_)
  refine ⟨_, (pss_one (ps_ret (pe_make (E := E0) M Fi (hr.mono (by decide)) (by rfl) mgC hb .nil pass0 (pa_cons (pe_callTy call_list_of (by rfl) (T.nb' "list") (by decide +kernel) (pa_cons (pe_ix ix_tup (pv 0) pe_int (fun _ _ => rfl)) pa_nil)) (pa_cons (pe_callTy call_list_of (by rfl) (T.nb' "list") (by decide +kernel) (pa_cons (pe_ix ix_tup (pv 0) pe_int (fun _ _ => rfl)) pa_nil)) pa_nil))))), fun σ e => ?_⟩
  refine w_ret (.refl sm) (ev_make (names := r.1) (items := r.2) (Rs := [NmsP K r.1, ItsP K r.2]) (Ds := []) (ea_cons ((ev_listL (ev_raw1 (ev_v e))).imp fun _ _ h => .inl h) (ea_cons ((ev_listL (ev_raw2 (ev_v e))).imp fun _ _ h => .inl h) ea_nil)) (fun _ => trivial) rfl pr) k
end
end K3
set_option Elab.async false
set_option linter.all false
set_option maxRecDepth 100000
set_option maxHeartbeats 1000000
namespace OB
open PySem L2
section
variable {K : Fg} {σ : L2.St} {G G1 H : Hp} {te ta tb tc : TE}
/-- a new list -/
def NewL (K : Fg) (ds : List PyData) : Pr := ⟨fun v G => ∃ p xs, v = .ref p ∧ G p = some (.lst xs) ∧ DpAll K G xs ds, fun _ _ _ e ⟨p, xs, h1, h2, h3⟩ => ⟨p, xs, h1, e _ _ h2, dpa_mono e _ _ h3⟩⟩
theorem ev_slN {tl th : TO} {ds : List PyData} {lo hi : Option Int} (h : Ev te σ G (D K (.list ds))) (h1 : EvO tl σ G lo) (h2 : EvO th σ G hi) : Ev (tSl (rSlL K) te tl th) σ G (NewL K (cutD ds lo hi)) := fun H s Q q =>
  h H s _ fun x G1 H1 g1 r1 => (h1.mono g1.gg) H1 g1.gh _ fun G2 H2 g2 => (h2.mono (g1.gg.trans g2.gg)) H2 g2.gh _ fun G3 H3 g3 => by
    obtain ⟨a, xs, rfl, hs, hd⟩ := dp_lst r1
    have s3 : Same G1 H3 := (g2.gg.trans g3.gg).trans g3.gh
    refine ⟨a, xs, rfl, s3.seq hs, fun p hp => ?_⟩
    have ga := Gr.alloc (o := .lst (cutV xs lo hi)) g3.gh hp
    exact q _ _ _ (((g1.trans g2).trans g3).trans ga) ⟨p, _, rfl, upd_same, dpa_cut (dpa_mono ((g2.gg.trans g3.gg).trans ga.gg) _ _ hd)⟩
theorem ev_catN {ds es : List PyData} (ha : Ev ta σ G (NewL K ds)) (hb : Ev tb σ G (NewL K es)) (hl : ds.length + es.length ≤ sizeLine) : Ev (tOp rCat ta tb) σ G (D K (.list (ds ++ es))) :=
  ev_op ha hb fun x y G1 _ hx hy => by
    obtain ⟨p, xs, rfl, h1, h2⟩ := hx
    obtain ⟨q, ys, rfl, h3, h4⟩ := hy
    intro H s Q k
    refine ⟨p, q, xs, ys, rfl, rfl, s _ _ h1, s _ _ h3, by rw [dpa_len h2, dpa_len h4]; exact hl, fun l hl => ?_⟩
    have ga := Gr.alloc (o := .lst (xs ++ ys)) s hl
    exact k _ _ _ ga (.lst (SqL.of upd_same) (dpa_app (dpa_mono ga.gg _ _ h2) (dpa_mono ga.gg _ _ h4)))
theorem dpa_ofget : ∀ {xs : List V} {ds : List PyData}, xs.length = ds.length → (∀ (i : Nat) d, ds[i]? = some d → ∃ v, xs[i]? = some v ∧ Dp K G v d) → DpAll K G xs ds
  | [], [], _, _ => .nil
  | [], _ :: _, h, _ => by simp at h
  | _ :: _, [], h, _ => by simp at h
  | x :: xs, d :: ds, h, k => by
    obtain ⟨v, h1, h2⟩ := k 0 d rfl
    cases h1
    exact .cons h2 (dpa_ofget (by simpa using h) fun i e he => by
      obtain ⟨v, h3, h4⟩ := k (i + 1) e (by simpa using he)
      exact ⟨v, by simpa using h3, h4⟩)
end
end OB
namespace K3
open PySem L2 OB
/-! numbers turned -/
def turnG (by_ : Int) (n : Nat) (x : Int) : Int := if x ≤ 0 then x else 1 + ((x - 1) * (if by_ % 2 = 0 then 1 else (n : Int) - 1) + by_) % (n : Int)
theorem turnG_ok (b : Int) (n : Nat) : TurnF (turnG b n) n := by
  refine ⟨rfl, rfl, fun x h1 h2 => ?_, fun x y h1 h2 h3 h4 e => ?_⟩
  · unfold turnG
    rw [if_neg (show ¬ x ≤ 0 by omega)]
    have hn : (0 : Int) < n := by omega
    generalize (x - 1) * (if b % 2 = 0 then 1 else (n : Int) - 1) + b = z
    have a1 := Int.emod_nonneg z (show (n : Int) ≠ 0 by omega)
    have a2 := Int.emod_lt_of_pos z hn
    omega
  · have hn : (0 : Int) < n := by omega
    unfold turnG at e
    rw [if_neg (show ¬ x ≤ 0 by omega), if_neg (show ¬ y ≤ 0 by omega)] at e
    have e2 : ((x - 1) * (if b % 2 = 0 then 1 else (n : Int) - 1) + b) % (n : Int) = ((y - 1) * (if b % 2 = 0 then 1 else (n : Int) - 1) + b) % (n : Int) := by omega
    have key : ∃ c : Int, x - y = (n : Int) * c := by
      by_cases hb : b % 2 = 0
      · rw [if_pos hb] at e2
        have q1 := Int.mul_ediv_add_emod ((x - 1) * 1 + b) n
        have q2 := Int.mul_ediv_add_emod ((y - 1) * 1 + b) n
        refine ⟨((x - 1) * 1 + b) / n - ((y - 1) * 1 + b) / n, ?_⟩
        rw [Int.mul_sub]
        omega
      · rw [if_neg hb] at e2
        have q1 := Int.mul_ediv_add_emod ((x - 1) * ((n : Int) - 1) + b) n
        have q2 := Int.mul_ediv_add_emod ((y - 1) * ((n : Int) - 1) + b) n
        refine ⟨(x - y) - (((x - 1) * ((n : Int) - 1) + b) / n - ((y - 1) * ((n : Int) - 1) + b) / n), ?_⟩
        have a1 : ∀ z : Int, (z - 1) * ((n : Int) - 1) = (n : Int) * z - (n : Int) - (z - 1) := fun z => by
          rw [Int.mul_sub, Int.mul_one, Int.sub_mul, Int.one_mul, Int.mul_comm z]
        have b1 := a1 x
        have b2 := a1 y
        rw [Int.mul_sub, Int.mul_sub, Int.mul_sub]
        omega
    obtain ⟨c, hc⟩ := key
    have hlt : x - y < n ∧ -(n : Int) < x - y := by omega
    rw [hc] at hlt
    by_cases h0 : c = 0
    · rw [h0] at hc; omega
    · exfalso
      rcases Int.lt_or_gt_of_ne h0 with h | h
      · have : (n : Int) * c ≤ (n : Int) * (-1) := Int.mul_le_mul_of_nonneg_left (by omega) (by omega)
        omega
      · have : (n : Int) * 1 ≤ (n : Int) * c := Int.mul_le_mul_of_nonneg_left (by omega) (by omega)
        omega
theorem cutD_drop {xs : List PyData} {k : Nat} (h : k ≤ xs.length) : cutD xs (some (k : Int)) none = xs.drop k := by
  unfold cutD
  rw [HT.sIx_nat, HT.sIx_none, Nat.min_eq_left h, List.take_of_length_le (by rw [List.length_drop]; exact Nat.le_refl _)]
section
variable {P : Program} {w : World} {K : Fg} {mg : Str → Option Value} {base : Heap} {σ : L2.St} {G H : Hp} {te ta tb : TE}
abbrev n_turned : List Str := ["_law_raw_here", "_law_by", "_law_many", "_law_anew", "_law_k", "_law_items", "_law_word", "_law_targets", "_law_one", "_law_names_here", "_law_name", "_law_target", "_law_cutting"]
abbrev s_turned : Stmt := top 42
theorem sc_turned : FnScope n_turned ["_law_raw_here", "_law_by"] (defScope s_turned) := ⟨rfl, rfl, rfl, by decide +kernel, rfl, by decide +kernel, by decide +kernel⟩
def TrnP (K : Fg) (r : Raw) : Pr := PrE (fun a : Raw => WebOk a.1 a.2 ∧ ∀ r', Made a.1 a.2 r' → r' = r) fun a => D K (dRaw a)
def sp_turned (K : Fg) : Sp := spD (α := Raw × Int) (fun a => [D K (dRaw a.1), D K (.int a.2)]) (fun a => Canon a.1 ∧ 0 ≤ a.2) (fun a => TrnP K a.1)
theorem ok_turned (T : Tx mg) (F : Fd K mg "_law_turned" s_turned ["_law_raw_here", "_law_by"]) : Def P w K mg base "_law_turned" 1 ["_law_raw_here", "_law_by"] (sp_turned K) := by
  have nd := sc_turned.nd
  refine F.okD sc_turned (fun _ => rfl) (fun f cdv A outer s H E Q a G hr sm pr k => ?_)
  have hu := hu_of hr
  refine ⟨_, (pss_cons (ps_set (i := 2) nd rfl (Or.inl rfl) (pe_callB call_len_seq (by rfl) (T.nb' "len") (by decide +kernel) (pa_cons (pe_ix ix_tup (pv 0) pe_int (fun _ _ => rfl)) pa_nil)))
      (pss_cons (ps_set (i := 3) nd rfl (Or.inr rfl) (pe_disp (pps_cons pe_int pe_int pps_nil) (by rfl) (by rfl) (fun z => by cases z) (by decide)))
      (pss_cons (ps_dput hu (pv 3) (pe_op op_sub pe_int pe_int) (pe_op op_sub pe_int pe_int) rfl)
      (pss_cons (ps_for PassesOwn.never rfl (pi_range1 (by rfl) (T.nb' "range") (pa_cons (pv 2) pa_nil)) (pg_name (i := 4) nd rfl (Or.inl rfl))
      (pss_one (ps_dput hu (pv 3) (pe_op op_add (pv 4) pe_int) (pe_op op_add pe_int (pe_op op_mod (pe_op op_add (pe_op op_mul (pv 4) (pe_ifExp (pt_cmpR op_eq (pe_op op_mod (pv 1) pe_int) pe_int (nomark _)) pe_int (pe_op op_sub (pv 2) pe_int))) (pv 1)) (pv 2))) rfl)))
      (pss_cons (ps_setLc (i := 5) (own := [("_law_k", 4)]) (g := (gName 4)) rfl nd rfl rfl (sw_true rfl rfl rfl (by decide +kernel)) (pi_range1 (by rfl) (T.nb' "range") (pa_cons (pv 2) pa_nil)) (blkOk_by (by kernel_rfl)) (fun _ _ _ _ _ => (pg_name (i := 4) nd rfl (Or.inl rfl))) (fun _ _ _ _ _ => pts_nil) (fun _ _ _ _ _ => pe_non))
      (pss_cons (ps_for PassesOwn.never rfl (pi_range1 (by rfl) (T.nb' "range") (pa_cons (pv 2) pa_nil)) (pg_name (i := 4) nd rfl (Or.inl rfl))
      (pss_cons (ps_asg (pe_ix ix_list (pe_ix ix_tup (pv 0) pe_int (fun _ _ => rfl)) (pv 4) (fun _ _ => rfl)) (pg_tup rfl (pgs_cons (pg_name (i := 6) nd rfl (Or.inl rfl)) (pgs_cons (pg_name (i := 7) nd rfl (Or.inl rfl)) pgs_nil))))
      (pss_one (ps_asg (pe_tup (pa_cons (pv 6) (pa_cons (pe_callTy call_tuple_of (by rfl) (T.nb' "tuple") (by decide +kernel) (pa_cons (pe_lc (own := [("_law_one", 8)]) (g := (gName 8)) rfl nd (pi_tup (pv 7)) (blkOk_by (by kernel_rfl)) (fun _ _ _ _ _ => (pg_name (i := 8) nd rfl (Or.inl rfl))) (fun _ _ _ _ _ => pts_nil) (fun _ _ _ _ _ => (pe_dget hu (pv 3) (pv 8) (fun _ _ => rfl)))) pa_nil)) pa_nil))) (pg_sub (pv 5) (pe_op op_sub (pe_dget hu (pv 3) (pe_op op_add (pv 4) pe_int) (fun _ _ => rfl)) pe_int) set_list)))))
      (pss_cons (ps_setLc (i := 9) (own := [("_law_name", 10), ("_law_target", 11)]) (g := (gTup K 2 (gCons (gName 10) (gCons (gName 11) gNil)))) rfl nd rfl rfl (sw_true rfl rfl rfl (by decide +kernel)) (pi_list (pe_ix ix_tup (pv 0) pe_int (fun _ _ => rfl))) (blkOk_by (by kernel_rfl)) (fun _ _ _ _ _ => (pg_tup rfl (pgs_cons (pg_name (i := 10) nd rfl (Or.inl rfl)) (pgs_cons (pg_name (i := 11) nd rfl (Or.inl rfl)) pgs_nil)))) (fun _ _ _ _ _ => pts_nil) (fun _ _ _ _ _ => (pe_tup (pa_cons (pv 10) (pa_cons (pe_dget hu (pv 3) (pv 11) (fun _ _ => rfl)) pa_nil)))))
      (pss_cons (ps_set (i := 12) nd rfl (Or.inl rfl) (pe_op op_mod (pv 1) (pe_op op_add (pe_callB call_len_seq (by rfl) (T.nb' "len") (by decide +kernel) (pa_cons (pv 9) pa_nil)) pe_int)))
      (pss_one (ps_ret (pe_tup (pa_cons (pe_op op_cat (pe_slice sl_list (pv 9) (po_some (pv 12)) po_none) (pe_slice sl_list (pv 9) po_none (po_some (pv 12)))) (pa_cons (pv 5) pa_nil))))))))))))), fun σ e => ?_⟩
  obtain ⟨r, b⟩ := a
  obtain ⟨C, hb0⟩ : Canon r ∧ 0 ≤ b := pr
  have W := inWeb_of C.nm C.it
  have hn : r.2.length ≤ 200 := C.it.len
  have TF := turnG_ok b r.2.length
  let g : Int → Int := turnG b r.2.length
  refine q_asg 2 e (.refl sm) (R := D K (.int (r.2.length : Nat))) ((ev_lenL (ev_raw2 (ev_v e))).is (by rw [List.length_map])) (by decide) fun σ1 G1 H1 e1 g1 _ => ?_
  refine q_disp1 3 (.inl 0) e1 g1 (by decide) fun p σ2 H2 hp e2 g2 hH2 => ?_
  have p0 : H p = none := g1.hh.free hp
  have pG : G1 p = none := g1.gh.free hp
  have hp2 : H2 p = some (.dK (mergeK [] [((.inl 0 : Key), V.int 0)])) := by rw [hH2, upd_same]
  refine q_dput (K := K) (key := .inl (-1)) (R := D K (.int (-1))) e2 g2.gh rfl hp2 (by decide +kernel) ((ev_sub ev_int ev_int).is rfl) ((ev_sub ev_int ev_int).is rfl) fun v3 G3 H3 g3 r3 => ?_
  have pG3 : G3 p = none := g3.fr p pG (by rw [hp2]; intro z; cases z)
  have g3' := (g2.trans g3).mut (o := .dK (putK (mergeK [] [((.inl 0 : Key), V.int 0)]) (.inl (-1)) v3)) p0 pG3
  have hd3 := (num1 (K := K) (G := G3)).put (k := .inl (-1)) r3
  rw [NumD_put] at hd3
  have e3 := e2.mono g3.gg
  refine q_forN g3'.gh (src_rng (ev_v e3) (by omega) (by show ((r.2.length : Nat) : Int) < 2 ^ 62; omega)) fun G4 H4 g4 => ⟨fun j σ' G' H' => Gr G H G' H' ∧ G' p = none ∧ ∃ kvs kk nf, H' p = some (.dK kvs) ∧ DicAt K G' kvs kk (NumD nf) ∧ kk.length ≤ j + 2 ∧ (nf 0 = some 0 ∧ nf (-1) = some (-1) ∧ ∀ x : Int, 1 ≤ x → x ≤ (j : Int) → nf x = some (g x)) ∧ Env 13 G' σ' [(3, Rf p), (2, D K (.int (r.2.length : Nat))), (0, D K (dRaw r)), (1, D K (.int b))], ?_, ?_, ?_⟩
  · refine ⟨g3'.trans g4, g4.fr p pG3 (by rw [upd_same]; intro z; cases z), _, _, _, g4.hh _ _ upd_same, hd3.mono g4.gg, addK_len _ _, ⟨rfl, rfl, fun x h1 h2 => by omega⟩, (have e := e3.mono g4.gg; e.pick (e.pick (e.pick (e.pick e.nil))))⟩
  · rintro j d v σ' G' H' hj s1 s2 hd ⟨z1, z2, kvs, kk, nf, z3, z4, z5, z6, z7⟩
    have hjl : j < r.2.length := by
      obtain ⟨h1, _⟩ := List.getElem?_eq_some_iff.mp hj
      rw [rngD_len] at h1
      simpa using h1
    have ej : d = .int (j : Nat) := by
      rw [rngD_get (by simpa using hjl)] at hj
      exact (Option.some.inj hj).symm
    subst ej
    have e5 := z7.set (i := 4) (R := D K (.int (j : Nat))) (by decide) hd
    refine w_dput (K := K) (key := .inl ((j : Int) + 1)) (R := D K (.int (g ((j : Int) + 1)))) e5 s2 rfl z3 (by rw [z4.len]; exact Nat.lt_of_le_of_lt (Nat.le_trans z5 (by omega : j + 2 ≤ 2000)) (by decide)) ?_ (ev_add (ev_v e5) ev_int) fun v6 G6 H6 g6 r6 => ?_
    · refine Ev.is (d := .int (1 + ((j : Int) * (if b % 2 = 0 then 1 else (r.2.length : Int) - 1) + b) % (r.2.length : Int))) (ev_add ev_int (ev_mod (ev_add (ev_mul (j := if b % 2 = 0 then 1 else (r.2.length : Int) - 1) (ev_v e5) (ev_if (et_test (ev_eqI (ev_mod (ev_v e5) ev_int (by decide)) ev_int)) (fun hb => ev_int.is ?_) fun hb => (ev_sub (ev_v e5) ev_int).is ?_) (.inl ⟨by omega, by omega⟩)) (ev_v e5)) (ev_v e5) (by omega))) ?_
      · rw [if_pos (of_decide_eq_true hb)]
      · rw [if_neg (of_decide_eq_false hb)]
      · show PyData.int _ = PyData.int (turnG b r.2.length ((j : Int) + 1))
        unfold turnG
        rw [if_neg (show ¬ (j : Int) + 1 ≤ 0 by omega), show ((j : Int) + 1 - 1) = (j : Int) by omega]
    have pG6 : G6 p = none := g6.fr p z2 (by rw [z3]; intro z; cases z)
    have g7 : Gr G H G6 (upd H6 p (.dK (putK kvs (.inl ((j : Int) + 1)) v6))) := (z1.trans g6).mut p0 pG6
    have hd7 := (z4.mono g6.gg).put (k := .inl ((j : Int) + 1)) r6
    rw [NumD_put] at hd7
    refine ⟨G6, s1.trans g6.gg, g7.gh, g7, pG6, _, _, _, upd_same, hd7, Nat.le_trans (addK_len _ _) (by omega), ⟨?_, ?_, fun x h1 h2 => ?_⟩, (have e := e5.mono g6.gg; e.pick (e.pick (e.pick (e.pick e.nil))))⟩
    · unfold putI
      rw [if_neg (by omega)]
      exact z6.1
    · unfold putI
      rw [if_neg (by omega)]
      exact z6.2.1
    · unfold putI
      by_cases hx : x = (j : Int) + 1
      · rw [if_pos hx, hx]
      · rw [if_neg hx]
        exact z6.2.2 x h1 (by omega)
  rintro σ5 G5 H5 s1 s2 ⟨z1, z2, kvs, kk, nf, z3, z4, z5, z6, z7⟩
  have hlen : (rngD ((r.2.length : Int)).toNat).length = r.2.length := by rw [rngD_len]; simp
  rw [hlen] at z6
  have e6 := Env.freezeD z7 z2 z4
  have g6 := z1.freeze p0 z2 z3
  generalize upd G5 p (.dK kvs) = G6 at e6 g6
  have hnf : ∀ t : Int, -1 ≤ t → t ≤ (r.2.length : Int) → nf t = some (g t) := fun t h1 h2 => by
    by_cases h0 : t = 0
    · rw [h0, z6.1]; rfl
    · by_cases h3 : t = -1
      · rw [h3, z6.2.1]; rfl
      · exact z6.2.2 t (by omega) h2
  have hsr := src_rng (K := K) (ev_v (i := 2) e6) (by omega) (by show ((r.2.length : Nat) : Int) < 2 ^ 62; omega)
  refine q_lcOwn 5 (fun _ => .none) e6 g6 (by decide) hsr (by rw [hlen]; omega) (fun i d v G' q1 q2 q3 => ⟨_, tg_name, wipe_set1, ev_non⟩) fun q acc σ7 G7 H7 hq qG7 e7 g7 gg7 hq7 hacc => ?_
  have q0 : H q = none := g6.hh.free hq
  have hal : acc.length = r.2.length := by rw [dpa_len hacc, List.length_map, hlen]
  refine q_forN g7.gh (src_rng (ev_v e7) (by omega) (by show ((r.2.length : Nat) : Int) < 2 ^ 62; omega)) fun G8 H8 g8 => ⟨fun j σ' G' H' => Gr G H G' H' ∧ G' q = none ∧ ∃ vs : List V, vs.length = r.2.length ∧ H' q = some (.lst vs) ∧ (∀ (i : Nat) y, i < j → r.2[i]? = some y → ∃ v, vs[(g ((i : Int) + 1) - 1).toNat]? = some v ∧ Dp K G' v (dIt (y.1, y.2.map g))) ∧ Env 13 G' σ' [(5, Rf q), (3, DicP K kk (NumD nf)), (2, D K (.int (r.2.length : Nat))), (0, D K (dRaw r)), (1, D K (.int b))], ?_, ?_, ?_⟩
  · exact ⟨g7.trans g8, g8.fr q qG7 (by rw [hq7]; intro z; cases z), acc, hal, g8.hh _ _ hq7, fun i y h => by omega, (have e := e7.mono g8.gg; e.pick (e.pick (e.pick (e.pick (e.pick e.nil)))))⟩
  · rintro j d v σ' G' H' hj t1 t2 hd ⟨y1, y2, vs, y3, y4, y5, y6⟩
    have hjl : j < r.2.length := by
      obtain ⟨h1, _⟩ := List.getElem?_eq_some_iff.mp hj
      rw [rngD_len] at h1
      simpa using h1
    have ej : d = .int (j : Nat) := by
      rw [rngD_get (by simpa using hjl)] at hj
      exact (Option.some.inj hj).symm
    subst ej
    have hy : r.2[j]? = some r.2[j] := by simp [hjl]
    generalize r.2[j] = it at hy
    have hW := W.it it (List.mem_of_getElem? hy)
    have e8 := y6.set (i := 4) (R := D K (.int (j : Nat))) (by decide) hd
    refine q_tup2 6 7 (K := K) (d1 := .str it.1) (d2 := tInts it.2) e8 y1 (ev_ixL (ev_raw2 (ev_v e8)) (ev_v e8) (atI_nat (by rw [List.getElem?_map, hy]; rfl))) (by decide) (by decide) fun σ9 G9 H9 e9 g9 gg9 => ?_
    have hgj := TF.rng ((j : Int) + 1) (by omega) (by omega)
    have hix : ixN vs.length (g ((j : Int) + 1) - 1) = some (g ((j : Int) + 1) - 1).toNat := by
      have h1 : ∀ m : Nat, m < vs.length → ixN vs.length (m : Int) = some m := fun m hm => by
        unfold ixN
        simp
        omega
      have h2 : (g ((j : Int) + 1) - 1) = (((g ((j : Int) + 1) - 1).toNat : Nat) : Int) := by show turnG b r.2.length ((j : Int) + 1) - 1 = (((turnG b r.2.length ((j : Int) + 1) - 1).toNat : Nat) : Int); omega
      have h3 := h1 (g ((j : Int) + 1) - 1).toNat (by rw [y3]; show (turnG b r.2.length ((j : Int) + 1) - 1).toNat < r.2.length; omega)
      rw [← h2] at h3
      exact h3
    refine w_setL (K := K) (R := D K (dIt (it.1, it.2.map g))) e9 g9.gh rfl (gg9.hh _ _ y4) (ev_tup [.str it.1, tInts (it.2.map g)] (ea_cons (ev_v e9) (ea_cons (ev_tupL ?_) ea_nil)) (by show 2 ≤ sizeLine; decide)) (ev_sub (ev_dget (k := .inl ((j : Int) + 1)) (ev_v e9) (ev_add (ev_v e9) ev_int) (by
      show (nf ((j : Int) + 1)).map PyData.int = some (.int (g ((j : Int) + 1)))
      rw [hnf _ (by omega) (by omega)]
      rfl)) ev_int) hix fun v9 Gz Hz gz rz => ?_
    · rw [List.map_map]
      exact ev_lcI (fun t => .int (g t)) (src_tup (ev_v e9)) (by have := hW.1; omega) e9 [(3, DicP K kk (NumD nf))] (lkc (by decide) rfl lk0) (by decide) fun t σa Ga ht _ ea => ev_dget (k := .inl t) (ev_v ea) (ev_v ea) (by
        show (nf t).map PyData.int = some (.int (g t))
        rw [hnf t (hW.2 t ht).1 (hW.2 t ht).2]
        rfl)
    have gg := gg9.trans gz
    have qGz : Gz q = none := gg.fr q y2 (by rw [y4]; intro z; cases z)
    have gz' := (g9.trans gz).mut (o := .lst (vs.set (g ((j : Int) + 1) - 1).toNat v9)) q0 qGz
    refine ⟨Gz, t1.trans gg.gg, gz'.gh, gz', qGz, _, by rw [List.length_set]; exact y3, upd_same, fun i y hi hyi => ?_, (have e := e9.mono gz.gg; e.pick (e.pick (e.pick (e.pick (e.pick e.nil)))))⟩
    by_cases hij : i = j
    · subst hij
      rw [hy] at hyi
      cases hyi
      exact ⟨v9, by rw [List.getElem?_set_self (by rw [y3]; show (turnG b r.2.length ((i : Int) + 1) - 1).toNat < r.2.length; omega)], rz⟩
    · obtain ⟨v0, h1, h2⟩ := y5 i y (by omega) hyi
      have hil : i < r.2.length := (List.getElem?_eq_some_iff.mp hyi).1
      have hgi := TF.rng ((i : Int) + 1) (by omega) (by omega)
      have hne : (g ((j : Int) + 1) - 1).toNat ≠ (g ((i : Int) + 1) - 1).toNat := fun z => by
        have : turnG b r.2.length ((i : Int) + 1) = turnG b r.2.length ((j : Int) + 1) := by
          have z' : (turnG b r.2.length ((j : Int) + 1) - 1).toNat = (turnG b r.2.length ((i : Int) + 1) - 1).toNat := z
          omega
        have := TF.inj _ _ (by omega) (by omega) (by omega) (by omega) this
        omega
      exact ⟨v0, by rw [List.getElem?_set_ne hne]; exact h1, dp_mono gg.gg _ _ h2⟩
  rintro σ8 G8' H8' t1 t2 ⟨y1, y2, vs, y3, y4, y5, y6⟩
  rw [hlen] at y5
  have hch : ∀ i : Nat, ∃ k : Nat, i < r.2.length → k < r.2.length ∧ g ((k : Int) + 1) = (i : Int) + 1 := fun i => by
    by_cases hi : i < r.2.length
    · obtain ⟨k, h1, h2⟩ := TF.all hi
      exact ⟨k, fun _ => ⟨h1, h2⟩⟩
    · exact ⟨0, fun z => absurd z hi⟩
  let iv : Nat → Nat := fun i => (hch i).choose
  have hiv : ∀ i, i < r.2.length → iv i < r.2.length ∧ g ((iv i : Int) + 1) = (i : Int) + 1 := fun i => (hch i).choose_spec
  let its : List Item := (List.range r.2.length).map fun i => ((r.2.getD (iv i) ("", [])).1, (r.2.getD (iv i) ("", [])).2.map g)
  have hil : its.length = r.2.length := by show ((List.range r.2.length).map _).length = _; simp
  have hits : ∀ (k : Nat) y, r.2[k]? = some y → its[(g ((k : Int) + 1) - 1).toNat]? = some (y.1, y.2.map g) := fun k y hk => by
    have hkl : k < r.2.length := (List.getElem?_eq_some_iff.mp hk).1
    have hgk := TF.rng ((k : Int) + 1) (by omega) (by omega)
    have hgl : (g ((k : Int) + 1) - 1).toNat < r.2.length := by show (turnG b r.2.length ((k : Int) + 1) - 1).toNat < r.2.length; omega
    obtain ⟨h1, h2⟩ := hiv _ hgl
    have hkk : iv (g ((k : Int) + 1) - 1).toNat = k := by
      have h3 : g ((iv (g ((k : Int) + 1) - 1).toNat : Int) + 1) = g ((k : Int) + 1) := by
        rw [h2]
        show (((turnG b r.2.length ((k : Int) + 1) - 1).toNat : Nat) : Int) + 1 = turnG b r.2.length ((k : Int) + 1)
        omega
      have := TF.inj _ _ (by omega) (by omega) (by omega) (by omega) h3
      omega
    show ((List.range r.2.length).map _)[_]? = _
    rw [List.getElem?_map, List.getElem?_range hgl]
    show some ((r.2.getD (iv (g ((k : Int) + 1) - 1).toNat) ("", [])).1, (r.2.getD (iv (g ((k : Int) + 1) - 1).toNat) ("", [])).2.map g) = _
    rw [hkk, getD_of hk]
  have hdv : DpAll K G8' vs (its.map dIt) := dpa_ofget (by rw [y3, List.length_map, hil]) fun i d hi => by
    rw [List.getElem?_map] at hi
    have hi1 : i < r.2.length := by
      refine Nat.lt_of_not_le fun z => ?_
      rw [List.getElem?_eq_none (by rw [hil]; exact z)] at hi
      cases hi
    obtain ⟨h1, h2⟩ := hiv i hi1
    have hk := List.getElem?_eq_getElem h1
    have h3 := hits _ _ hk
    have h4 := y5 _ _ h1 hk
    rw [h2, show (((i : Int) + 1) - 1).toNat = i by omega] at h3 h4
    rw [h3] at hi
    cases hi
    exact h4
  have e9 := Env.freezeL y6 y2 hdv
  have g9 := y1.freeze q0 y2 y4
  generalize upd G8' q (.lst vs) = G9 at e9 g9
  have hnl : r.1.length ≤ 6 := C.nm.len
  refine q_asg 9 e9 g9 (R := D K (dNames (r.1.map fun p => (p.1, g p.2)))) ?_ (by decide) fun σa Ga Ha ea ga _ => ?_
  · unfold dNames
    rw [List.map_map]
    exact ev_lcB (l' := [(3, DicP K kk (NumD nf))]) r.1 (fun p => .str p.1) (fun p => .int p.2) (fun p => .tuple [.str p.1, .int (g p.2)]) (fun b c q1 q2 => by
      injection q1 with q1; injection q2 with q2; exact Prod.ext q1 q2) (src_list (ev_raw1 (ev_v e9))) (by omega) e9 (fun k R q => by
        rw [List.lookup_cons] at q
        by_cases hk : k = 3
        · subst hk; simp only [beq_self_eq_true] at q; cases q; exact ⟨rfl, by decide, by decide⟩
        · rw [show (k == 3) = false by simpa using hk] at q; cases q) (by decide) (by decide) (by decide) fun p σb Gb hp _ eb => ev_tup [.str p.1, .int (g p.2)] (ea_cons (ev_v eb) (ea_cons (ev_dget (k := .inl p.2) (ev_v eb) (ev_v eb) (by
          show (nf p.2).map PyData.int = some (.int (g p.2))
          rw [hnf p.2 (W.nt p hp).1 (W.nt p hp).2]
          rfl)) ea_nil)) (by show 2 ≤ sizeLine; decide)
  have hNl : ((r.1.map fun p => (p.1, g p.2)).map OB.dNm).length = r.1.length := by rw [List.length_map, List.length_map]
  refine q_asg 12 ea ga (ev_mod (ev_v ea) (ev_add (ev_lenL (ev_v ea)) ev_int) (by omega)) (by decide) fun σc Gc Hc ec gc _ => ?_
  rw [hNl] at ec
  have hc1 := Int.emod_nonneg b (show ((r.1.length : Int) + 1) ≠ 0 by omega)
  have hc2 := Int.emod_lt_of_pos b (show 0 < ((r.1.length : Int) + 1) by omega)
  obtain ⟨c, hc⟩ := Int.eq_ofNat_of_zero_le hc1
  rw [hc] at hc2 ec
  have hcl : c ≤ r.1.length := by omega
  let nms : List Nm := (r.1.map fun p => (p.1, g p.2)).drop c ++ (r.1.map fun p => (p.1, g p.2)).take c
  have hperm : nms.Perm (r.1.map fun p => (p.1, g p.2)) := by
    have h1 : nms.Perm ((r.1.map fun p => (p.1, g p.2)).take c ++ (r.1.map fun p => (p.1, g p.2)).drop c) := List.perm_append_comm
    rw [List.take_append_drop] at h1
    exact h1
  refine w_ret gc (R := D K (dRaw (nms, its))) ?_ fun v G' H' gx r' => k v G' H' gx ⟨(nms, its), turned_made C TF hperm hil hits, r'⟩
  refine ev_tup [dNames nms, dItems its] (ea_cons ((ev_catN (ev_slN (ev_v ec) (eo_some (ev_v ec)) eo_none) (ev_slN (ev_v ec) eo_none (eo_some (ev_v ec))) ?_).is ?_) (ea_cons (ev_v ec) ea_nil)) (by show 2 ≤ sizeLine; decide)
  · rw [cutD_drop (by rw [hNl]; exact hcl), cutD_take, List.length_drop, List.length_take, hNl]
    exact sz8 (by omega)
  · rw [cutD_drop (by rw [hNl]; exact hcl), cutD_take]
    show PyData.list _ = PyData.list (List.map OB.dNm ((r.1.map fun p => (p.1, g p.2)).drop c ++ (r.1.map fun p => (p.1, g p.2)).take c))
    rw [List.map_append, List.map_drop, List.map_take]
end
end K3
set_option Elab.async false
set_option linter.all false
set_option maxRecDepth 100000
set_option maxHeartbeats 1000000
namespace OB
open PySem PySem.Spec PyProof.Rows L2
theorem Fd.okG {P : Program} {w : World} {K : Fg} {mg : Str → Option Value} {base : Heap} {x : Str} {st : Stmt} {ps N : List Str} {k : Nat} {α : Type} {args : α → List Pr} {pre : α → Prop} {res : α → Pr} (F : Fd K mg x st ps) (S : FnScope N ps (defScope st)) (hlen : ∀ a, (args a).length = ps.length)
    (hbody : ∀ (f : Addr) (cdv : Value) (A : Around) (outer : List PySem.Env) (s : Shared) (H : Hp) (E : XK) (Q : VK) (a : α) (G : Hp), A.guards = some [] → Room k (A.deeper (PyProof.Rows.envOfC x (defScope st) s.heap.objs.size f cdv)) → Same G H → pre a →
      (∀ v G' H', Gr G H G' H' → (res a).r v G' → Q v H') →
      ∃ t, PSs (cxOf CX0 P w K mg base N x (defScope st) f cdv A outer s H E).nox (defBody st) t ∧ ∀ σ, Env N.length G σ (idx 0 (args a)) → t { nx := fun _ H' => Q .non H', rt := Q } σ H) : DefG P w K mg base x (k + 1) ps (spD args pre res) := by
  obtain ⟨f, fd, h1, h2, h3⟩ := F.ex
  have hn : ps.length ≤ N.length := by
    have e := congrArg List.length S.pre
    rw [List.length_take] at e
    omega
  obtain ⟨oc, od, kV, doc, pm, an, cdv, ct, osl, rfl, lk, hcd⟩ := h1.ex
  refine ⟨f, _, fnG_of lk hcd S (fun vs H Q E h => ?_) (fun A outer s H vs Q E gd hr h => ?_), h2, h1.kp, h3⟩
  · obtain ⟨a, G, _, h, _⟩ := h
    rw [allR_len h, hlen a]
  · obtain ⟨a, G, sm, al, pr, k⟩ := h
    obtain ⟨t, ht, hw⟩ := hbody f cdv A outer s H E Q a G gd hr sm pr k
    exact ⟨t, ht.nox, hw _ (env_start al (by rw [hlen a]; exact hn))⟩
section
variable {K : Fg} {σ : L2.St} {G : Hp} {te : TE}
theorem ev_reprS {z : Str} (h : Ev te σ G (D K (.str z))) (hz : (reprText z).length ≤ sizeLine) : Ev (tCB (rReprD K) (tCons te tNil)) σ G (D K (.str (reprText z))) :=
  ev_cb (ea_cons h ea_nil) fun vs G1 _ a H s Q q => by
    match vs, a with
    | [v], ⟨r, _⟩ => exact ⟨v, .str z, rfl, dp_mono s _ _ r, .inl ⟨z, rfl, hz, q _ G1 H (.refl s) (.str _)⟩⟩
theorem ev_reprL {d : PyData} (h : Ev te σ G (D K d)) (h1 : isDisplay d = true) (h2 : d.showable = true) (h3 : d.hasDict = false) (h4 : d.depth ≤ 60) (h5 : d.shown.length ≤ sizeLine) : Ev (tCB (rReprD K) (tCons te tNil)) σ G (D K (.str d.shown)) :=
  ev_cb (ea_cons h ea_nil) fun vs G1 _ a H s Q q => by
    match vs, a with
    | [v], ⟨r, _⟩ => exact ⟨v, d, rfl, dp_mono s _ _ r, .inr ⟨h1, h2, h3, h4, h5, q _ G1 H (.refl s) (.str _)⟩⟩
end
end OB
namespace K3
open PySem PySem.Spec PyProof.Rows L2 OB
theorem text_len {r : Raw} (h : TxtOk r) : (textOf r).length ≤ 6000 := by
  unfold textOf
  split
  · decide
  · have h1 := join_le " " (wordsL r)
    have h2 := sum_le (words_le h)
    have h3 : (wordsL r).length ≤ 206 := by rw [words_len]; have := h.n1; have := h.n2; omega
    have h4 : (((" " : Str)).length) = 1 := by decide
    rw [h4] at h1
    have : (wordsL r).length * 25 ≤ 206 * 25 := Nat.mul_le_mul_right _ h3
    omega
theorem repr_fits {z : Str} (h : z.length ≤ 6000) (hz : PyData.strOk z = true) : (reprText z).length ≤ sizeLine := by
  have h1 := StrLaws.reprText_len z fun c hc => by
    unfold PyData.strOk at hz
    rw [Array.all_eq_true_iff_forall_mem] at hz
    have := of_decide_eq_true (hz c (Array.mem_toList_iff.mp hc))
    exact Nat.lt_trans this (by decide)
  exact Nat.le_trans h1 (Nat.le_trans (by omega : 10 * z.length + 2 ≤ 70000) (by decide))
def two (n : Nat) (b : Bool) : PyData := .list [.int (n : Nat), .bool b]
theorem two_len : ∀ (n : Fin 300) (b : Bool), (two n.val b).shown.length ≤ 40 := by decide +kernel
inductive SameD : PyData → Prop
  | str {z : Str} (h : z.length ≤ 6000) (hz : PyData.strOk z = true) : SameD (.str z)
  | two {n : Nat} {b : Bool} (h : n < 300) : SameD (two n b)
structure STx (K : Fg) : Prop where
  s : PySem.W.kitOne K (.type "str") (.type "dict") = some false
  l : PySem.W.kitOne K (.type "list") (.type "dict") = some false
theorem tyx_lst {K : Fg} {H : Hp} {a : Addr} {xs : List V} (h : SqL K H a xs) : TyX K H (.ref a) (.type "list") := by
  rcases h with (h | ⟨o, h⟩) | ⟨o, its, n, h1, h2, _⟩
  · exact .base (.lst h)
  · exact .base (.frz h)
  · exact .kList h1 h2
section
variable {P : Program} {w : World} {K : Fg} {mg : Str → Option Value} {base : Heap} {σ : L2.St} {G H : Hp} {te ta tb : TE}
abbrev s_same : Stmt := top 33
theorem sc_same : FnScope ["_law_one", "_law_other"] ["_law_one", "_law_other"] (defScope s_same) := ⟨rfl, rfl, rfl, by decide +kernel, rfl, by decide +kernel, by decide +kernel⟩
def sp_same (K : Fg) : Sp := spD (α := PyData) (fun d => [D K d, D K d]) (fun d => SameD d) (fun _ => D K (.bool true))
theorem ok_same (T : Tx mg) (TS : STx K) (F : Fd K mg "_law_same" s_same ["_law_one", "_law_other"]) : DefG P w K mg base "_law_same" 1 ["_law_one", "_law_other"] (sp_same K) := by
  refine F.okG sc_same (fun _ => rfl) (fun f cdv A outer s H E Q d G gd hr sm pr k => ?_)
  have hu64 : (A.deeper (PyProof.Rows.envOfC "_law_same" (defScope s_same) s.heap.objs.size f cdv)).units + 64 < cLine := by have := hr.un; omega
  refine ⟨_, (pss_cons (ps_if (pt_val (pe_callB call_isi (by rfl) (T.nb' "isinstance") (by decide +kernel) (pa_cons (pv 1) (pa_cons (pe_bltn (v := .ty "dict") (by rfl) (T.nb' "dict") (by decide +kernel) rfl) pa_nil)))) pss_never pss_nil)
      (pss_one (ps_ret (pe_and (pe_cmpR (op_eqD hu64) (pv 0) (pv 1) (nomark _)) (pe_one (pe_cmpR op_eq (pe_callB (cr_reprD gd hu64) (by rfl) (T.nb' "repr") (by decide +kernel) (pa_cons (pv 0) pa_nil)) (pe_callB (cr_reprD gd hu64) (by rfl) (T.nb' "repr") (by decide +kernel) (pa_cons (pv 1) pa_nil)) (nomark _))))))), fun σ e => ?_⟩
  have pr : SameD d := pr
  have isi : (∀ v G', Dp K G' v d → ∀ H', Same G' H' → ∃ t, TyX K H' v t ∧ PySem.W.kitOne K t (.type "dict") = some false) → Ev (tCB (rIsi K) (tCons (tVar 1) (tCons (tC (.ty "dict")) tNil))) σ G (D K (.bool false)) := fun hb =>
    ev_cb (Rs := [D K d, Vl (.ty "dict")]) (ea_cons (ev_v e) (ea_cons (fun H s Q q => q _ G H (.refl s) rfl) ea_nil)) fun vs G1 _ al H s Q q => by
      match vs, al with
      | [v, c], ⟨r1, rc, _⟩ =>
        cases (show c = .ty "dict" from rc)
        obtain ⟨t, h1, h2⟩ := hb v G1 r1 H s
        exact ⟨v, .ty "dict", t, .type "dict", false, rfl, .ty "dict", h1, h2, q _ G1 H (.refl s) (.bl _)⟩
  have h1 : Ev (tCB (rIsi K) (tCons (tVar 1) (tCons (tC (.ty "dict")) tNil))) σ G (D K (.bool false)) := isi fun v G' h H' s => by
    cases pr with
    | str _ _ =>
      cases dp_str h
      exact ⟨_, .base (.str _), TS.s⟩
    | two _ =>
      obtain ⟨a, xs, rfl, hs, _⟩ := dp_lst h
      exact ⟨_, tyx_lst (s.seq hs), TS.l⟩
  refine q_if e (.refl sm) (et_B h1) (fun hb => nomatch hb) fun _ G1 H1 e1 g1 _ => ?_
  cases pr with
  | @str z hz ho =>
    refine w_ret g1 (Ev.is (ev_andV (ev_eqD (ev_v e1) (ev_v e1) (sh_str ho).ok (sh_str ho).ok) fun _ => ev_eqS (ev_reprS (ev_v e1) (repr_fits hz ho)) (ev_reprS (ev_v e1) (repr_fits hz ho))) ?_) k
    rw [eqv_str]
    simp
  | @two n b hn =>
    have sh : SeqAt.shaped (two n b) = true := (sh_list (n := 0) fun d hd => by
      simp only [List.mem_cons, List.not_mem_nil, or_false] at hd
      rcases hd with rfl | rfl
      · exact sh_int _
      · exact sh_bool _).ok
    have s1 : isDisplay (two n b) = true := rfl
    have s2 : (two n b).showable = true := by
      unfold two
      simp only [PyData.showable, PyData.showableAll]
      rw [decide_eq_true (log_small (t := ((n : Nat) : Int)) (by omega))]
      rfl
    have s3 : (two n b).hasDict = false := by
      unfold two
      simp [PyData.hasDict, PyData.hasDictAll]
    have s4 : (two n b).depth ≤ 60 := by
      unfold two
      simp [PyData.depth, PyData.depthAll]
    have s5 : (two n b).shown.length ≤ sizeLine := Nat.le_trans (two_len ⟨n, hn⟩ b) (by decide)
    refine w_ret g1 (Ev.is (ev_andV (ev_eqD (ev_v e1) (ev_v e1) sh sh) fun _ => ev_eqS (ev_reprL (ev_v e1) s1 s2 s3 s4 s5) (ev_reprL (ev_v e1) s1 s2 s3 s4 s5)) ?_) k
    have : PyData.eqv (two n b) (two n b) = true := by
      unfold two
      simp [PyData.eqv, PyData.eqvAll]
    rw [this]
    simp
end
end K3
set_option Elab.async false
set_option linter.all false
set_option maxRecDepth 100000
set_option maxHeartbeats 1000000
namespace K3
open PySem L2 OB
section
variable {P : Program} {w : World} {K : Fg} {mg : Str → Option Value} {base : Heap} {σ : L2.St} {G H : Hp} {te ta tb : TE} {C : Addr} {r : Raw}
theorem web_own {v : V} (h : (WebP K C r).r v G) {H : Hp} (s : Same G H) : Own C H v := by
  obtain ⟨a, dx, fs, v1, v2, e1, e2, _⟩ := h
  exact ⟨a, dx, fs, e1, s _ _ e2⟩
theorem ev_reprW (h : Ev te σ G (WebP K C r)) (hr : TxtOk r) : Ev (tCB (rReprO C (sp_repr K C)) (tCons te tNil)) σ G (D K (.str (textOf r))) :=
  ev_cb (ea_cons h ea_nil) fun vs G1 _ a H s Q q => by
    match vs, a with
    | [v], ⟨r1, _⟩ => exact ⟨v, rfl, web_own r1 s, r, G1, s, ⟨r1, trivial⟩, hr, fun v G' H' g rr => by
        cases dp_str rr
        exact ⟨_, rfl, q _ G' H' g (.str _)⟩⟩
theorem ev_lenW (h : Ev te σ G (WebP K C r)) (hr : r.2.length ≤ 1000) : Ev (tCB (rLenO C (sp_len K C)) (tCons te tNil)) σ G (D K (.int (r.2.length : Nat))) :=
  ev_cb (ea_cons h ea_nil) fun vs G1 _ a H s Q q => by
    match vs, a with
    | [v], ⟨r1, _⟩ => exact ⟨v, rfl, web_own r1 s, r, G1, s, ⟨r1, trivial⟩, trivial, fun v G' H' g rr => by
        cases dp_int rr
        exact ⟨_, rfl, ⟨by omega, by omega⟩, q _ G' H' g (.int _)⟩⟩
structure QTx (K : Fg) (C : Addr) : Prop where
  n1 : PySem.W.notFirst K C (.ref C) = true
  n2 : PySem.W.notFirst K C (.type "str") = true
  n3 : PySem.W.notFirst K C (.type "tuple") = true
theorem ev_eqW {o : Oth} (QT : QTx K C) (ha : Ev ta σ G (WebP K C r)) (hb : Ev tb σ G (OthP K C o)) (h1 : RawS r) (h2 : OthS o) : Ev (tOp (rEqO K C (sp_eq K C)) ta tb) σ G (D K (.bool (othB r o))) :=
  ev_op ha hb fun x y G1 _ hx hy => by
    intro H s Q q
    have ty : ∃ t, TyV K C H y t ∧ PySem.W.notFirst K C t = true := by
      cases o with
      | web r' => exact ⟨.ref C, .inl ⟨web_own hy s, rfl⟩, QT.n1⟩
      | txt z => exact ⟨.type "str", .inr (.inl ⟨z, dp_str hy, rfl⟩), QT.n2⟩
      | raw r' =>
        obtain ⟨a, xs, e, hs, _⟩ := dp_tup (show Dp K G1 y (.tuple [dNames r'.1, dItems r'.2]) from hy)
        exact ⟨.type "tuple", .inr (.inr ⟨a, xs, e, sm_t s hs, rfl⟩), QT.n3⟩
    obtain ⟨t, t1, t2⟩ := ty
    exact ⟨t, web_own hx s, t1, t2, (r, o), G1, s, ⟨hx, hy, trivial⟩, ⟨h1, h2⟩, fun v G' H' g rr => by
      cases dp_bl rr
      exact ⟨_, rfl, q _ G' H' g (.bl _)⟩⟩
theorem ev_neW {r' : Raw} (ha : Ev ta σ G (WebP K C r)) (hb : Ev tb σ G (WebP K C r')) (h1 : RawS r) (h2 : RawS r') : Ev (tOp (rNeO C (sp_eq K C)) ta tb) σ G (D K (.bool (!decide (r = r')))) :=
  ev_op ha hb fun x y G1 _ hx hy => by
    intro H s Q q
    exact ⟨web_own hx s, web_own hy s, (r, .web r'), G1, s, ⟨hx, hy, trivial⟩, ⟨h1, h2⟩, fun v G' H' g rr => by
      cases dp_bl rr
      exact ⟨_, rfl, q _ G' H' g (.bl _)⟩⟩
theorem ev_heapW (h : Ev ta σ G (WebP K C r)) (hr : r.2.length ≤ 1000) : Ev (tMeth C "is_heap" (sp_heap K C) [] E0 ta tNil) σ G (D K (.bool (heapB r.2))) := fun H s Q q =>
  h H s _ fun v G1 H1 g1 r1 => by
    have r1' := r1
    obtain ⟨a, dx, fs, v1, v2, e1, e2, e3, e4, e5, e6, e7, e8⟩ := r1
    refine ⟨a, dx, fs, e1, g1.gh _ _ e2, e6 _ (by decide) (by decide), r, G1, g1.gh, ⟨r1', trivial⟩, hr, fun v G' H' g rr => q v G' H' (g1.trans g) rr⟩
/-! a call of a def with what is known only so far -/
theorem ev_callP {α β : Type} {Pb : β → Prop} {f : β → Pr} {args : α → List Pr} {pre : α → Prop} {res : α → Pr} {R : Pr} {E : XK} (h : Ev te σ G (PrE Pb f)) (ha : ∀ b, Pb b → ∃ a, args a = [f b] ∧ pre a ∧ ∀ v G, (res a).r v G → R.r v G) : Ev (tCall (spD args pre res) [] E (tCons te tNil)) σ G R := fun H s Q q =>
  h H s _ fun v G1 H1 g1 ⟨b, pb, rb⟩ => by
    obtain ⟨a, e, pa, k⟩ := ha b pb
    exact ⟨a, G1, g1.gh, by rw [e]; exact ⟨rb, trivial⟩, pa, fun v G' H' g r => q v G' H' (g1.trans g) (k v G' r)⟩
/-- a list of webs of raws -/
theorem ev_lcW {n j : Nat} {l l' : List (Nat × Pr)} {wi : TI} (rs : List Raw) (f : Raw → Pr) (hs : Src K wi σ G (rs.map dRaw)) (hl : rs.length ≤ 1000) (E : Env n G σ l) (hl' : ∀ k R, l'.lookup k = some R → l.lookup k = some R ∧ k ≠ j) (hj : j < n)
    (ht : ∀ r σ2 G', r ∈ rs → Same G G' → Env n G' σ2 ((j, D K (dRaw r)) :: l') → Ev te σ2 G' (f r)) : Ev (tLc wi (gName j) tYes te [j]) σ G (LstOf K (rs.map f)) := by
  classical
  have inj : ∀ a b : Raw, dRaw a = dRaw b → a = b := fun a b h => by
    have h1 := eqv_raw a a
    have h2 := eqv_raw a b
    rw [← h] at h2
    rw [h2] at h1
    simpa using h1
  let F : PyData → Pr := fun d => if h : ∃ b, dRaw b = d then f h.choose else Rf 0
  have hF : ∀ b, F (dRaw b) = f b := fun b => by
    have h : ∃ c, dRaw c = dRaw b := ⟨b, rfl⟩
    show (if h : ∃ c, dRaw c = dRaw b then f h.choose else Rf 0) = _
    rw [dif_pos h, inj _ _ h.choose_spec]
  have e : rs.map f = ((rs.map dRaw).filter fun _ => true).map F := by
    rw [List.filter_eq_self.mpr (fun _ _ => rfl), List.map_map]
    exact List.map_congr_left fun b _ => (hF b).symm
  rw [e]
  refine ev_lcR (fun _ => true) F hs (by rw [List.length_map]; exact hl) fun k d v G' h1 h2 h3 => ?_
  rw [List.getElem?_map] at h1
  cases q : rs[k]? with
  | none => rw [q] at h1; cases h1
  | some b =>
    rw [q] at h1
    cases h1
    rw [hF b]
    exact ⟨_, tg_name, wipe_set1, et_yes, fun _ => ht b _ G' (List.mem_of_getElem? q) h2 (((E.wipe1 hl').mono h2).set hj h3)⟩
theorem lst_of_D {ds : List PyData} {v : V} (h : (D K (.list ds)).r v G) : (LstOf K (ds.map (D K))).r v G := by
  obtain ⟨a, xs, e, hs, hd⟩ := dp_lst h
  exact ⟨a, xs, e, hs, dpa_allR hd⟩
/-! dict(names), ours -/
theorem paired_names : ∀ {ns : List Nm} {xs : List V}, DpAll K G xs (ns.map OB.dNm) → ∃ (ps : List Addr) (kvs : List (Key × V)), xs = ps.map V.ref ∧ Paired (fun p kv => SqT K G p [kV kv.1, kv.2]) ps kvs ∧ kvs = ns.map fun p => ((.inr p.1 : Key), V.int p.2)
  | [], _, h => by
    cases h
    exact ⟨[], [], rfl, .nil, rfl⟩
  | n :: ns, _, h => by
    cases h with
    | cons h1 h2 =>
      obtain ⟨ps, kvs, e1, e2, e3⟩ := paired_names h2
      obtain ⟨a, xs, rfl, hs, hd⟩ := dp_tup (show Dp K G _ (.tuple [.str n.1, .int n.2]) from h1)
      cases hd with
      | cons x1 hd =>
        cases hd with
        | cons x2 hd =>
          cases hd
          cases dp_str x1
          cases dp_int x2
          exact ⟨a :: ps, _ :: kvs, by rw [e1]; rfl, .cons (show SqT K G a [kV (.inr n.1), .int n.2] from hs) e2, by rw [e3]; rfl⟩
theorem Paired.mono {α β : Type} {R S : α → β → Prop} (h : ∀ a b, R a b → S a b) : ∀ {xs : List α} {ys : List β}, Paired R xs ys → Paired S xs ys
  | _, _, .nil => .nil
  | _, _, .cons a b => .cons (h _ _ a) (Paired.mono h b)
theorem merge_lead : ∀ (ns acc : List Nm) (kvs : List (Key × V)), ((acc ++ ns).map (·.1)).Nodup → DicAt K G kvs (nKeys acc) (LeadF acc) → DicAt K G (mergeK kvs (ns.map fun p => ((.inr p.1 : Key), V.int p.2))) (nKeys (acc ++ ns)) (LeadF (acc ++ ns))
  | [], acc, kvs, _, h => by
    rw [List.append_nil]
    exact h
  | p :: ns, acc, kvs, hn, h => by
    have hp : ¬ p.1 ∈ acc.map (·.1) := by
      rw [List.map_append, List.nodup_append] at hn
      exact fun z => hn.2.2 p.1 z p.1 (by simp) rfl
    have h1 := h.putN (d := .int p.2) (v := .int p.2) (lead_new acc p.1 hp) (.int _)
    rw [lead_put acc p.1 p.2 hp] at h1
    have h2 := merge_lead ns (acc ++ [p]) (putK kvs (.inr p.1) (.int p.2)) (by rw [List.append_assoc]; exact hn) (by
      have e : nKeys (acc ++ [p]) = nKeys acc ++ [.inr p.1] := by
        unfold nKeys
        rw [List.map_append, List.map_append]
        rfl
      rw [e]
      exact h1)
    rw [List.append_assoc] at h2
    exact h2
def rDictP (K : Fg) : List V → Hp → VK → Prop := fun xs H Q => ∃ (d : Addr) (prs : List Addr) (out : List (Key × V)), xs = [.ref d] ∧ SqL K H d (prs.map V.ref) ∧ Paired (fun p kv => SqT K H p [kV kv.1, kv.2]) prs out ∧
    ∀ p, H p = none → Q (.ref p) (upd H p (.dK (mergeK [] out)))
theorem kDictP {X : Cx} (K : Fg) (hc : X.calm = true) (h : X.K = K := by rfl) : CallR X (.type "dict") (rDictP K) := by
  subst h
  exact call_dictP hc
/-- what dict(..) of names does -/
theorem dict_names {ns : List Nm} (nn : (ns.map (·.1)).Nodup) (h : Ev te σ G (D K (dNames ns))) (s : Same G H) {Q : VK} (q : ∀ p kvs G' H', H p = none → G' p = none → Gr G H G' H' → H' p = some (.dK kvs) → DicAt K G' kvs (nKeys ns) (LeadF ns) → Q (.ref p) H') : tCB (rDictP K) (tCons te tNil) σ H Q :=
  h H s _ fun v G1 H1 g1 r1 => by
    obtain ⟨a, xs, rfl, hs, hd⟩ := dp_lst r1
    obtain ⟨ps, kvs, rfl, e2, e3⟩ := paired_names hd
    refine ⟨a, ps, kvs, rfl, g1.gh.seq hs, Paired.mono (fun p kv h => sm_t g1.gh h) e2, fun p hp => ?_⟩
    have hD : DicAt K G1 (mergeK [] kvs) (nKeys ns) (LeadF ns) := by
      rw [e3]
      exact merge_lead ns [] [] (by simpa using nn) ⟨rfl, fun k => by cases k <;> trivial⟩
    exact q p _ G1 _ (g1.hh.free hp) (g1.gh.free hp) (g1.trans (Gr.side g1.gh hp)) upd_same hD
end
end K3
set_option Elab.async false
set_option linter.all false
set_option maxRecDepth 100000
set_option maxHeartbeats 1000000
namespace OB
open PySem L2
section
variable {K : Fg} {σ : L2.St} {G G1 H : Hp} {te ta tb tc : TE} {R A B : Pr} {d e : PyData} {n i j : Nat} {l : List (Nat × Pr)} {Dn : Ends} {G0 H0 : Hp} {t u v : TS} {tt : TT}
theorem fun_okG {P : Program} {w : World} {K : Fg} {mg : Str → Option Value} {base : Heap} {x qual : Str} {st : Stmt} {f : Addr} {fd : FuncData} {ps N : List Str} {k : Nat} {α : Type} {args : α → List Pr} {pre : α → Prop} {res : α → Pr} (F : Fun K x qual st f fd) (S : FnScope N ps (defScope st)) (hlen : ∀ a, (args a).length = ps.length)
    (hbody : ∀ (cdv : Value) (A : Around) (outer : List PySem.Env) (s : Shared) (H : Hp) (E : XK) (Q : VK) (a : α) (G : Hp), A.guards = some [] → Room k (A.deeper (PyProof.Rows.envOfC qual (defScope st) s.heap.objs.size f cdv)) → Same G H → pre a →
      (∀ v G' H', Gr G H G' H' → (res a).r v G' → Q v H') →
      ∃ t, PSs (cxOf CX0 P w K mg base N qual (defScope st) f cdv A outer s H E).nox (defBody st) t ∧ ∀ σ, Env N.length G σ (idx 0 (args a)) → t { nx := fun _ H' => Q .non H', rt := Q } σ H) : FnG P w K mg base (k + 1) f fd ps (spD args pre res) := by
  have hn : ps.length ≤ N.length := by
    have e := congrArg List.length S.pre
    rw [List.length_take] at e
    omega
  obtain ⟨oc, od, kV, doc, pm, an, cdv, ct, osl, rfl, lk, hcd⟩ := F.ex
  refine fnG_of lk hcd S (fun vs H Q E h => ?_) (fun A outer s H vs Q E gd hr h => ?_)
  · obtain ⟨a, G, _, h, _⟩ := h
    rw [allR_len h, hlen a]
  · obtain ⟨a, G, sm, al, pr, k⟩ := h
    obtain ⟨t, ht, hw⟩ := hbody cdv A outer s H E Q a G gd hr sm pr k
    exact ⟨t, ht.nox, hw _ (env_start al (by rw [hlen a]; exact hn))⟩
theorem ev_eqB {a b : Bool} (ha : Ev ta σ G (D K (.bool a))) (hb : Ev tb σ G (D K (.bool b))) : Ev (tOp rEq ta tb) σ G (D K (.bool (decide (a = b)))) :=
  ev_op ha hb fun x y G1 _ hx hy => by
    cases dp_bl hx
    cases dp_bl hy
    exact .flat (z := .bl (decide (V.bl a = V.bl b))) (fun H Q _ q => ⟨rfl, q⟩) (by
      have e : decide (V.bl a = V.bl b) = decide (a = b) := by simp
      show Dp K G1 (.bl (decide (V.bl a = V.bl b))) (.bool (decide (a = b)))
      rw [e]
      exact .bl _)
theorem ev_neB {a b : Bool} (ha : Ev ta σ G (D K (.bool a))) (hb : Ev tb σ G (D K (.bool b))) : Ev (tOp rNe ta tb) σ G (D K (.bool (!decide (a = b)))) :=
  ev_op ha hb fun x y G1 _ hx hy => by
    cases dp_bl hx
    cases dp_bl hy
    exact .flat (z := .bl (!decide (V.bl a = V.bl b))) (fun H Q _ q => ⟨rfl, q⟩) (by
      have e : decide (V.bl a = V.bl b) = decide (a = b) := by simp
      show Dp K G1 (.bl (!decide (V.bl a = V.bl b))) (.bool (!decide (a = b)))
      rw [e]
      exact .bl _)
def NewD0 : Pr := ⟨fun v G => ∃ b, v = .ref b ∧ G b = some (.dK []), fun _ _ _ e ⟨b, h1, h2⟩ => ⟨b, h1, e _ _ h2⟩⟩
theorem ev_newD0 : Ev tDNewK σ G NewD0 := fun H s Q q p hp => q _ _ _ (Gr.alloc s hp) ⟨p, rfl, upd_same⟩
theorem ev_isEmptyD {ks : List Key} {f : Key → Option PyData} (ha : Ev ta σ G (DicP K ks f)) (hb : Ev tb σ G NewD0) : Ev (tOp rEqD0 ta tb) σ G (D K (.bool (decide (ks.length = 0)))) :=
  ev_op ha hb fun x y G1 _ hx hy => by
    obtain ⟨p, kvs, rfl, hp, hk⟩ := hx
    obtain ⟨b, rfl, hb⟩ := hy
    exact .flat (z := .bl (decide (kvs.length = 0))) (fun H Q s q => ⟨p, b, kvs, rfl, rfl, s _ _ hp, s _ _ hb, q⟩) (by
      show Dp K G1 (.bl (decide (kvs.length = 0))) (.bool (decide (ks.length = 0)))
      rw [hk.len]
      exact .bl _)
theorem q_ifEJ {b : Bool} (J : L2.St → Hp → Prop) (h : EvT tt σ H b) (kj : ∀ σ' H', J σ' H' → u Dn σ' H') (k1 : b = true → ∀ H', Same H H' → (∀ σ' H', J σ' H' → u Dn σ' H') → t { Dn with nx := u Dn } σ H') (k2 : b = false → ∀ H', Same H H' → (∀ σ' H', J σ' H' → u Dn σ' H') → v { Dn with nx := u Dn } σ H') : tSeq (tIfS tt t v) u Dn σ H :=
  w_ifF (Dn := { Dn with nx := u Dn }) h (fun hb H' s => k1 hb H' s kj) fun hb H' s => k2 hb H' s kj
/-- a, b = d[k], d ours -/
theorem q_dgetTup {p : Addr} {kvs : List (Key × V)} {ks : List Key} {f : Key → Option PyData} {x : Int} {d1 d2 : PyData} (a b : Nat) (E : Env n G σ l) (g : Gr G0 H0 G H) (hi : l.lookup i = some (Rf p)) (hp : H p = some (.dK kvs)) (hd : DicAt K G kvs ks f) (hk : Ev tb σ H (D K (.int x))) (hf : f (.inl x) = some (.tuple [d1, d2])) (ha : a < n) (hb : b < n)
    (k : ∀ σ' H', Env n G σ' ((b, D K d2) :: (a, D K d1) :: l) → Gr G0 H0 G H' → Same H H' → u Dn σ' H') : tSeq (tAsg (tDGet (tVar i) tb) (gTup K 2 (gCons (gName a) (gCons (gName b) gNil)))) u Dn σ H := by
  obtain ⟨w, h1, h2⟩ := E.get i _ hi
  cases (show w = .ref p from h2)
  refine ⟨_, h1, hk H (Same.refl H) _ fun y G2 H2 g2 r2 => ?_⟩
  cases dp_int r2
  obtain ⟨v, e1, e2⟩ := OptD.some (hf ▸ hd.2 (.inl x))
  refine ⟨p, v, rfl, e1 ▸ DGet.k (k := .inl x) (g2.hh _ _ hp), ?_⟩
  obtain ⟨v1, v2, x1, x2, tg⟩ := tg_tup2 (σ := σ) (i := a) (j := b) e2
  exact tg H2 (g.gh.trans g2.hh) _ (k _ H2 ((E.set ha x1).set hb x2) (g.grow g2.hh) g2.hh)
/-- d[k] = v, d ours, the key read over the whole heap -/
theorem w_dputF {p : Addr} {kvs : List (Key × V)} {key : Key} (E : Env n G σ l) (sm : Same G H) (hi : l.lookup i = some (Rf p)) (hp : H p = some (.dK kvs)) (hl : kvs.length < sizeLine) (h : Ev te σ G R) (hk : ∀ H', Same H H' → Ev ta σ H' (D K (keyD key)))
    (k : ∀ v G' H', Same G G' → Same H H' → Same G' H' → (∀ q, G q = none → H q ≠ none → G' q = none) → R.r v G' → Dn.nx σ (upd H' p (.dK (putK kvs key v)))) : sDPut (tVar i) ta te Dn σ H := by
  refine h H sm _ fun v G1 H1 g1 r1 => ?_
  obtain ⟨w, h1, h2⟩ := E.get i _ hi
  cases (show w = .ref p from h2)
  refine ⟨_, h1, (hk H1 g1.hh) H1 (Same.refl H1) _ fun y G2 H2 g2 r2 => ?_⟩
  cases dp_key r2
  exact ⟨p, _, rfl, DPut.k (g2.hh _ _ (g1.hh _ _ hp)) hl, k v G1 H2 g1.gg (g1.hh.trans g2.hh) (g1.gh.trans g2.hh) g1.fr r1⟩
theorem q_forP {wi : TI} {g : TG} {Rs Ss : List Pr} {tb : TS} (sm : Same G H) (hs : SrcP K wi σ G Rs Ss)
    (hb : ∀ G1 H1, Gr G H G1 H1 → ∃ Iv : Nat → L2.St → Hp → Hp → Prop, Iv 0 σ G1 H1 ∧ (∀ (k : Nat) R S T v1 v2 σ' G' H', Rs[k]? = some R → Ss[k]? = some S → Same G1 G' → Same G' H' → R.r v1 G' → S.r v2 G' → Iv k σ' G' H' → H' T = none →
      g (.ref T) σ' (upd H' T (.tup [v1, v2])) fun σ2 H2 => tb { Dn with nx := Nx G1 Iv (k + 1), ct := Nx G1 Iv (k + 1), bk := u Dn } σ2 H2) ∧ (∀ σ' G' H', Same G1 G' → Same G' H' → Iv Rs.length σ' G' H' → u Dn σ' H')) : tSeq (tFor wi g tb) u Dn σ H := w_forP (Dn := { Dn with nx := u Dn }) sm hs hb
end
end OB
namespace K3
open PySem L2 OB
theorem canon_web {r : Raw} (C : Canon r) : WebOk r.1 r.2 ∧ ∀ r', Made r.1 r.2 r' → r' = r := by
  have T : TurnF id r.2.length := ⟨rfl, rfl, fun x h1 h2 => ⟨h1, h2⟩, fun x y _ _ _ _ e => e⟩
  refine turned_made C T (by simp) rfl fun k q h => ?_
  show r.2[((k : Int) + 1 - 1).toNat]? = some (q.1, q.2.map id)
  rw [show ((k : Int) + 1 - 1).toNat = k by omega, h, List.map_id]
theorem setN_ok {ns : List Nm} {x : Str} {t : Int} (h : NamesOk ns) : NamesOk (setN ns x t) := by
  refine ⟨by unfold setN; rw [List.length_map]; exact h.len, fun p hp => ?_, by rw [setN_fst]; exact h.nd⟩
  obtain ⟨q, hq, rfl⟩ := List.mem_map.mp hp
  have := h.wd q hq
  show isWord (if q.1 = x then (q.1, t) else q).1 1 6 = true ∧ (if q.1 = x then (q.1, t) else q).1.length ≤ 6
  split <;> exact this
theorem itemsOk_set {ns : List Nm} {its : List Item} {j : Nat} {q : Item} (h : ItemsOk ns its) (hq : OkIt (its.length : Int) q) : ItemsOk ns (its.set j q) := by
  refine ⟨by rw [List.length_set]; exact h.len, fun y hy => ?_, fun p hp => by rw [List.length_set]; exact h.nt p hp, h.nl⟩
  rw [List.length_set]
  rcases List.mem_or_eq_of_mem_set hy with h1 | h1
  · exact h.it y h1
  · rw [h1]
    exact hq
theorem okIt_zero {n : Nat} {q : Item} (h : OkIt (n : Int) q) : OkIt (n : Int) (q.1, List.replicate q.2.length 0) := by
  obtain ⟨h1, h2, h3⟩ := h
  refine ⟨?_, h2, by rw [List.length_replicate]; exact h3⟩
  unfold itemOk at h1 ⊢
  simp only [Bool.and_eq_true, List.length_replicate] at h1 ⊢
  refine ⟨h1.1, List.all_eq_true.mpr fun t ht => ?_⟩
  rw [List.eq_of_mem_replicate ht]
  exact isTgt_iff.mpr ⟨by omega, by omega⟩
theorem okIt_cell {n : Nat} (hn : 1 ≤ n) : OkIt (n : Int) ("cell", [1, -1]) := by
  have c3 : isWord ("cell" : Str) 2 8 = true := by decide +kernel
  refine ⟨?_, by decide, by decide⟩
  unfold itemOk
  simp only [c3]
  simp [isTgt]
  omega
def wordOf : PyData → Str
  | .tuple (.str z :: _) => z
  | _ => Str.empty
theorem heap_eq (its : List Item) : heapB its = decide (((its.map dIt).filter fun d => !decide (wordOf d = "cell")) = []) := by
  induction its with
  | nil => rfl
  | cons q its ih =>
    have e : wordOf (dIt q) = q.1 := rfl
    have hb : heapB (q :: its) = (decide (q.1 = "cell") && heapB its) := rfl
    rw [hb, List.map_cons, List.filter_cons, e]
    by_cases h : q.1 = "cell"
    · rw [decide_eq_true h]
      simpa using ih
    · rw [decide_eq_false h]
      simp
theorem eqv_list_nil (l : List PyData) : PyData.eqv (.list l) (.list []) = decide (l = []) := by
  cases l <;> simp [PyData.eqv, PyData.eqvAll]
structure WTx (P : Program) (w : World) (K : Fg) (mg : Str → Option Value) (base : Heap) (C : Addr) : Prop where
  tc : CTx K C
  te : ETx K C mg
  qt : QTx K C
  init : ∃ (f : Addr) (fd : FuncData) (ds : List Value) (T0 T1 : Addr), Mk K C f ∧ FnOk P w K mg base CX0 4 f fd ["self", "names", "items"] (sp_init K C) ∧ Binds K fd ["self", "names", "items"] [] ∧ Binds K fd ["self", "names", "items"] ds ∧ Vals [.ref T0, .ref T1] ds ∧ (∀ G : Hp, SqT K G T0 [] ∧ SqT K G T1 [])
  repr : ∃ (f : Addr) (fd : FuncData), FnOk P w K mg base CX0 3 f fd ["self"] (sp_repr K C) ∧ PySem.W.findIn K (.ref C) "__repr__" = some (some (.ref f)) ∧ PySem.W.isFn K (.ref f) = true ∧ Binds K fd ["self"] []
  len : ∃ (f : Addr) (fd : FuncData), FnOk P w K mg base CX0 1 f fd ["self"] (sp_len K C) ∧ PySem.W.findIn K (.ref C) "__len__" = some (some (.ref f)) ∧ PySem.W.isFn K (.ref f) = true ∧ Binds K fd ["self"] []
  eq : ∃ (f : Addr) (fd : FuncData), FnOk P w K mg base CX0 1 f fd ["self", "other"] (sp_eq K C) ∧ PySem.W.findIn K (.ref C) "__eq__" = some (some (.ref f)) ∧ PySem.W.isFn K (.ref f) = true ∧ Binds K fd ["self", "other"] [] ∧ NeH K C f [.type "object"]
  heap : ∃ (f : Addr) (fd : FuncData), FnOk P w K mg base CX0 1 f fd ["self"] (sp_heap K C) ∧ Meth K C "is_heap" f ∧ Binds K fd ["self"] []
section
variable {P : Program} {w : World} {K : Fg} {mg : Str → Option Value} {base : Heap} {σ : L2.St} {G H : Hp} {te ta tb : TE} {C : Addr}
abbrev n_law : List Str := ["_law_script", "_law_raws", "_law_k", "_law_raw_here", "_law_place", "_law_by", "_law_leads", "_law_spots_here", "_law_word", "_law_targets", "_law_webs", "_law_one", "_law_shapes", "_law_item", "_law_other", "_law_some"]
abbrev s_law : Stmt := top 43
theorem sc_law : FnScope n_law ["_law_script"] (defScope s_law) := ⟨rfl, rfl, rfl, by decide +kernel, rfl, by decide +kernel, by decide +kernel⟩
def sp_law (K : Fg) : Sp := spD (α := List Int) (fun a => [D K (dInts a)]) (fun _ => True) (fun _ => D K (.bool true))
theorem ok_law (T : Tx mg) (WT : WTx P w K mg base C) {f : Addr} {fd : FuncData} (F : Fun K "law" "law" s_law f fd)
    (D_law_digits : Def P w K mg base "_law_digits" 2 ["_law_script", "_law_k", "_law_sizes"] (sp_digits K))
    (D_law_raw : Def P w K mg base "_law_raw" 4 ["_law_script", "_law_k", "_law_words", "_law_most"] (sp_raw K))
    (D_law_spots : Def P w K mg base "_law_spots" 1 ["_law_items"] (sp_spots K))
    (D_law_canon : Def P w K mg base "_law_canon" 2 ["_law_leads", "_law_spots_here"] (sp_canon K))
    (D_law_made : Def P w K mg base "_law_made" 6 ["_law_raw_here"] (sp_made K C))
    (D_law_turned : Def P w K mg base "_law_turned" 1 ["_law_raw_here", "_law_by"] (sp_turned K))
    (D_law_text : Def P w K mg base "_law_text" 2 ["_law_raw_here"] (sp_text K))
    (D_law_same : DefG P w K mg base "_law_same" 1 ["_law_one", "_law_other"] (sp_same K)) : FnG P w K mg base 9 f fd ["_law_script"] (sp_law K) := by
  have nd := sc_law.nd
  obtain ⟨fi, fdi, ds, T0, T1, Mi, Fi, bi, bd, vd, hT⟩ := WT.init
  obtain ⟨fr, fdr, Fr, sr, ir, br⟩ := WT.repr
  obtain ⟨fl, fdl, Fl, sl, il, bl⟩ := WT.len
  obtain ⟨fe, fde, Fe, se, ie, be, nh⟩ := WT.eq
  obtain ⟨fh, fdh, Fh, mh, bh⟩ := WT.heap
  have mgC := WT.te.mgC
  refine fun_okG F sc_law (fun _ => rfl) (fun cdv A outer s H E Q a G gd hr sm pr k => ?_)
  have hu := hu_of hr
  have hu64 : (A.deeper (PyProof.Rows.envOfC "law" (defScope s_law) s.heap.objs.size f cdv)).units + 64 < cLine := by have := hr.un; omega
  have hu0 : (A.deeper (PyProof.Rows.envOfC "law" (defScope s_law) s.heap.objs.size f cdv)).units < cLine := by omega
  refine ⟨_, (pss_cons (ps_set (i := 0) nd rfl (Or.inl rfl) (pe_slice sl_list (pv 0) po_none (po_some pe_int)))
      (pss_cons (ps_set (i := 1) nd rfl (Or.inl rfl) (pe_lst (pa_cons (pe_tup (pa_cons (pe_lst pa_nil) (pa_cons (pe_lst pa_nil) pa_nil))) pa_nil)))
      (pss_cons (ps_for PassesOwn.never rfl (pi_range1 (by rfl) (T.nb' "range") (pa_cons pe_int pa_nil)) (pg_name (i := 2) nd rfl (Or.inl rfl))
      (pss_cons (ps_set (i := 3) nd rfl (Or.inl rfl) (pe_def D_law_raw hr (by rfl) (pa_cons (pv 0) (pa_cons (pe_op op_mul pe_int (pv 2)) (pa_cons (pe_lst (pa_cons (pe_tup (pa_cons pe_str (pa_cons pe_int pa_nil))) (pa_cons (pe_tup (pa_cons pe_str (pa_cons pe_int pa_nil))) pa_nil))) (pa_cons pe_int pa_nil))))))
      (pss_cons (ps_expr (pe_bm PySem.F.plainAttrs_list PySem.F.slot_list_append PySem.F.type_list_append mt_append (pv 1) (pa_cons (pv 3) pa_nil)))
      (pss_cons (ps_asg (pe_def D_law_digits hr (by rfl) (pa_cons (pv 0) (pa_cons (pe_op op_add (pe_op op_mul pe_int (pv 2)) pe_int) (pa_cons (pe_lst (pa_cons pe_int (pa_cons pe_int pa_nil))) pa_nil)))) (pg_unl rfl (pgs_cons (pg_name (i := 4) nd rfl (Or.inl rfl)) (pgs_cons (pg_name (i := 5) nd rfl (Or.inl rfl)) pgs_nil))))
      (pss_cons (ps_par (i := 6) (j := 7) rfl nd rfl rfl (by decide) rfl rfl (pa_cons (pe_callTy (kDictP K rfl) (by rfl) (T.nb' "dict") (by decide +kernel) (pa_cons (pe_ix ix_tup (pv 3) pe_int (fun _ _ => rfl)) pa_nil)) (pa_cons (pe_def D_law_spots hr (by rfl) (pa_cons (pe_ix ix_tup (pv 3) pe_int (fun _ _ => rfl)) pa_nil)) pa_nil)) (by rfl))
      (pss_cons (ps_if (PW.pt (pw_or (pt_cmpR op_eq (pv 5) pe_int (nomark _)) (pw_or1 (pt_cmpR (op_eqD0 hu0) (pv 7) pe_dnewK (nomark _))))) (pss_one (ps_dput hu (pv 6) (pe_ix ix_tup (pe_ix ix_list (pe_ix ix_tup (pv 3) pe_int (fun _ _ => rfl)) (pe_op op_mod (pv 4) (pe_callB call_len_seq (by rfl) (T.nb' "len") (by decide +kernel) (pa_cons (pe_ix ix_tup (pv 3) pe_int (fun _ _ => rfl)) pa_nil))) (fun _ _ => rfl)) pe_int (fun _ _ => rfl)) pe_int rfl)) (pss_cons (ps_asg (pe_dget hu (pv 7) (pe_op op_add pe_int (pe_op op_mod (pv 4) (pe_callB kLenD (by rfl) (T.nb' "len") (by decide +kernel) (pa_cons (pv 7) pa_nil)))) (fun _ _ => rfl)) (pg_tup rfl (pgs_cons (pg_name (i := 8) nd rfl (Or.inl rfl)) (pgs_cons (pg_name (i := 9) nd rfl (Or.inl rfl)) pgs_nil))))
      (pss_one (ps_dput hu (pv 7) (pe_op op_add pe_int (pe_op op_mod (pv 4) (pe_callB kLenD (by rfl) (T.nb' "len") (by decide +kernel) (pa_cons (pv 7) pa_nil)))) (pe_ifExp (pt_cmpR op_lt (pv 5) pe_int (nomark _)) (pe_tup (pa_cons (pv 8) (pa_cons (pe_op op_repS (pe_tup (pa_cons pe_int pa_nil)) (pe_callB call_len_seq (by rfl) (T.nb' "len") (by decide +kernel) (pa_cons (pv 9) pa_nil))) pa_nil))) (pe_tup (pa_cons pe_str (pa_cons (pe_tup (pa_cons pe_int (pa_cons (pe_op op_sub pe_int pe_int) pa_nil))) pa_nil)))) rfl))))
      (pss_one (ps_expr (pe_bm PySem.F.plainAttrs_list PySem.F.slot_list_append PySem.F.type_list_append mt_append (pv 1) (pa_cons (pe_def D_law_canon hr (by rfl) (pa_cons (pv 6) (pa_cons (pv 7) pa_nil))) pa_nil))))))))))
      (pss_cons (ps_setLc (i := 10) (own := [("_law_raw_here", 3)]) (g := (gName 3)) rfl nd rfl rfl (sw_true rfl rfl rfl (by decide +kernel)) (pi_list (pv 1)) (blkOk_by (by kernel_rfl)) (fun _ _ _ _ _ => (pg_name (i := 3) nd rfl (Or.inl rfl))) (fun _ _ _ _ _ => pts_nil) (fun _ _ _ _ _ => (pe_def D_law_made hr (by rfl) (pa_cons (pe_def D_law_turned hr (by rfl) (pa_cons (pv 3) (pa_cons (pe_op op_add (pe_op op_mul pe_int (pe_callB (kLen K) (by rfl) (T.nb' "len") (by decide +kernel) (pa_cons (pe_ix (kIxT K) (pv 3) pe_int (fun _ _ => rfl)) pa_nil))) pe_int) pa_nil))) pa_nil))))
      (pss_cons (ps_for PassesOwn.never rfl (pi_zip (by rfl) (T.nb' "zip") (pa_cons (pv 10) (pa_cons (pv 1) pa_nil))) (pg_tup rfl (pgs_cons (pg_name (i := 11) nd rfl (Or.inl rfl)) (pgs_cons (pg_name (i := 3) nd rfl (Or.inl rfl)) pgs_nil)))
      (pss_cons (ps_if (PW.pt (pw_or (pt_not (pt_val (pe_defG D_law_same gd hr (by rfl) (pa_cons (pe_callB (cr_reprO Fr sr ir br (hr.mono (by decide))) (by rfl) (T.nb' "repr") (by decide +kernel) (pa_cons (pv 11) pa_nil)) (pa_cons (pe_def D_law_text hr (by rfl) (pa_cons (pv 3) pa_nil)) pa_nil))))) (pw_or (pt_cmpR (op_eqO Fe se ie be (hr.mono (by decide))) (pv 11) (pe_callB (cr_reprO Fr sr ir br (hr.mono (by decide))) (by rfl) (T.nb' "repr") (by decide +kernel) (pa_cons (pv 11) pa_nil)) (nomark _)) (pw_or1 (pt_cmpR (op_eqO Fe se ie be (hr.mono (by decide))) (pv 11) (pv 3) (nomark _)))))) (pss_one (ps_ret pe_bl)) pss_nil)
      (pss_cons (ps_setLc (i := 12) (own := [("_law_item", 13)]) (g := (gName 13)) rfl nd rfl rfl (sw_true rfl rfl rfl (by decide +kernel)) (pi_list (pe_ix ix_tup (pv 3) pe_int (fun _ _ => rfl))) (blkOk_by (by kernel_rfl)) (fun _ _ _ _ _ => (pg_name (i := 13) nd rfl (Or.inl rfl))) (fun _ _ _ _ _ => (pts_one (pt_cmpR op_ne (pe_ix (kIxT K) (pv 13) pe_int (fun _ _ => rfl)) pe_str (nomark _)))) (fun _ _ _ _ _ => (pv 13)))
      (pss_cons (ps_if (pt_not (pt_val (pe_defG D_law_same gd hr (by rfl) (pa_cons (pe_lst (pa_cons (pe_callB (cr_lenO Fl sl il bl (hr.mono (by decide))) (by rfl) (T.nb' "len") (by decide +kernel) (pa_cons (pv 11) pa_nil)) (pa_cons (pe_meth0 (pv 11) WT.tc.cl mh Fh (hr.mono (by decide)) bh .nil pass0) pa_nil))) (pa_cons (pe_lst (pa_cons (pe_callB call_len_seq (by rfl) (T.nb' "len") (by decide +kernel) (pa_cons (pe_ix ix_tup (pv 3) pe_int (fun _ _ => rfl)) pa_nil)) (pa_cons (pe_cmpR (op_eqD hu64) (pv 12) (pe_lst pa_nil) (nomark _)) pa_nil))) pa_nil))))) (pss_one (ps_ret pe_bl)) pss_nil)
      (pss_cons (ps_for PassesOwn.never rfl (pi_zip (by rfl) (T.nb' "zip") (pa_cons (pv 10) (pa_cons (pv 1) pa_nil))) (pg_tup rfl (pgs_cons (pg_name (i := 14) nd rfl (Or.inl rfl)) (pgs_cons (pg_name (i := 15) nd rfl (Or.inl rfl)) pgs_nil)))
      (pss_one (ps_if (PW.pt (pw_or (pt_cmpR op_ne (pe_cmpR (op_eqO Fe se ie be (hr.mono (by decide))) (pv 11) (pv 14) (nomark _)) (pe_cmpR (op_eqD hu64) (pv 3) (pv 15) (nomark _)) (nomark _)) (pw_or1 (pt_cmpR op_eq (pe_cmpR (op_neO Fe PySem.F.cmp_object nh be (hr.mono (by decide))) (pv 11) (pv 14) (nomark _)) (pe_cmpR (op_eqD hu64) (pv 3) (pv 15) (nomark _)) (nomark _))))) (pss_one (ps_ret pe_bl)) pss_nil)))
      (pss_one (ps_if (pt_not (pt_cmpR (op_eqO Fe se ie be (hr.mono (by decide))) (pv 11) (pe_def D_law_made hr (by rfl) (pa_cons (pv 3) pa_nil)) (nomark _))) (pss_one (ps_ret pe_bl)) pss_nil)))))))
      (pss_one (ps_ret (pe_and (pe_cmpR (op_eqO Fe se ie be (hr.mono (by decide))) (pe_make0 (E := E0) Mi Fi (hr.mono (by decide)) (by rfl) mgC bd vd pass0) (pe_make (E := E0) Mi Fi (hr.mono (by decide)) (by rfl) mgC bi .nil pass0 (pa_cons (pe_lst pa_nil) (pa_cons (pe_tup pa_nil) pa_nil))) (nomark _)) (pe_and (pe_cmpR op_eq (pe_callB (cr_reprO Fr sr ir br (hr.mono (by decide))) (by rfl) (T.nb' "repr") (by decide +kernel) (pa_cons (pe_make0 (E := E0) Mi Fi (hr.mono (by decide)) (by rfl) mgC bd vd pass0) pa_nil)) pe_str (nomark _)) (pe_one (pe_cmpR op_eq (pe_callB (cr_lenO Fl sl il bl (hr.mono (by decide))) (by rfl) (T.nb' "len") (by decide +kernel) (pa_cons (pe_make0 (E := E0) Mi Fi (hr.mono (by decide)) (by rfl) mgC bd vd pass0) pa_nil)) pe_int (nomark _)))))))))))), fun σ e => ?_⟩

  let ms : List Int := a.take 63
  have sz : ∀ {m : Nat}, m ≤ 1000 → m ≤ sizeLine := fun h => sz8 h
  have hsz : ([97, 5] : List Int).length ≤ 100 ∧ ∀ s ∈ ([97, 5] : List Int), 0 < s ∧ s < 1000000 := by decide
  refine q_asg 0 e (.refl sm) (R := D K (dInts ms)) ((ev_slL (ev_v e) eo_none (eo_some (ev_int (K := K)))).is (by
    show PyData.list (cutD (a.map PyData.int) none (some ((63 : Nat) : Int))) = PyData.list ((a.take 63).map PyData.int)
    rw [cutD_take, List.map_take])) (by decide) fun σ1 G1 H1 e1 g1 _ => ?_
  refine q_lstOwn (Rs := [D K (dRaw ([], []))]) 1 e1 g1 (by decide) (ea_cons (ev_tup [dNames [], dItems []] (ea_cons (ev_lst [] ea_nil (Nat.zero_le _)) (ea_cons (ev_lst [] ea_nil (Nat.zero_le _)) ea_nil)) (by show 2 ≤ sizeLine; decide)) ea_nil) (by show 1 ≤ sizeLine; decide) fun p vs0 σ2 G2 H2 hp pG2 e2 g2 gg2 hp2 al2 => ?_
  have p0 : H p = none := g1.hh.free hp
  have dv0 : DpAll K G2 vs0 ([(([], []) : Raw)].map dRaw) := allR_dpa (ds := [dRaw ([], [])]) al2
  have e2' : Env 16 G2 σ2 [(1, Rf p), (0, D K (dInts ms))] := e2.pick (e2.pick e2.nil)
  refine q_forN g2.gh (src_rng (K := K) (n := 4) ev_int (by decide) (by decide)) fun G3 H3 g3 => ⟨fun j σ' G' H' => Gr G H G' H' ∧ G' p = none ∧ ∃ (vs : List V) (rs : List Raw), H' p = some (.lst vs) ∧ DpAll K G' vs (rs.map dRaw) ∧ rs.length = 1 + 2 * j ∧ (∀ r ∈ rs, Canon r) ∧ Env 16 G' σ' [(1, Rf p), (0, D K (dInts ms))], ?_, ?_, ?_⟩
  · exact ⟨g2.trans g3, g3.fr p pG2 (by rw [hp2]; intro z; cases z), vs0, [([], [])], g3.hh _ _ hp2, dpa_mono g3.gg _ _ dv0, rfl, fun r hr => by rw [List.mem_singleton.mp hr]; exact canon_nil, e2'.mono g3.gg⟩
  · rintro j d v σ' G' H' hj s1 s2 hd ⟨z1, z2, vs, rs, z3, z4, z5, z6, z7⟩
    have hjl : j < 4 := by
      obtain ⟨h1, _⟩ := List.getElem?_eq_some_iff.mp hj
      rw [rngD_len] at h1
      exact h1
    have ej : d = .int (j : Nat) := by
      have := rngD_get (n := 4) hjl
      rw [show (rngD ((4 : Int)).toNat)[j]? = (rngD 4)[j]? from rfl, this] at hj
      exact (Option.some.inj hj).symm
    subst ej
    have e4 := z7.set (i := 2) (R := D K (.int (j : Nat))) (by decide) hd
    refine q_asg 3 e4 z1 (ev_call0 (ms, 13 * (j : Int)) (ea_cons (ev_v e4) (ea_cons (ev_mul ev_int (ev_v e4) (.inl ⟨by decide, by decide⟩)) (ea_cons (ev_lst [.tuple [.str "list", .int 0], .tuple [.str "seg", .int 1]] (ea_cons (ev_tup [.str "list", .int 0] (ea_cons ev_str (ea_cons ev_int ea_nil)) (by show 2 ≤ sizeLine; decide)) (ea_cons (ev_tup [.str "seg", .int 1] (ea_cons ev_str (ea_cons ev_int ea_nil)) (by show 2 ≤ sizeLine; decide)) ea_nil)) (by show 2 ≤ sizeLine; decide)) (ea_cons ev_int ea_nil)))) (by show 0 ≤ 13 * (j : Int); omega)) (by decide) fun σ5 G5 H5 e5 g5 gg5 => ?_
    obtain ⟨r, ⟨hC, hne⟩, e5⟩ := Env.open e5
    have z3' := gg5.hh _ _ z3
    have pG5 : G5 p = none := gg5.fr p z2 (by rw [z3]; intro z; cases z)
    have hvl : vs.length ≤ 1000 := by rw [dpa_len z4, List.length_map, z5]; omega
    refine q_append e5 g5.gh rfl z3' (Nat.lt_of_le_of_lt hvl (by decide)) (ev_v (i := 3) (R := D K (dRaw r)) e5) fun v6 G6 H6 g6 r6 => ?_
    have pG6 : G6 p = none := g6.fr p pG5 (by rw [z3']; intro z; cases z)
    have g6' := (g5.trans g6).mut (o := .lst (vs ++ [v6])) p0 pG6
    have d6 : DpAll K G6 (vs ++ [v6]) ((rs ++ [r]).map dRaw) := by
      rw [List.map_append]
      exact dpa_app (dpa_mono (gg5.gg.trans g6.gg) _ _ z4) (dpa_one r6)
    have hp6 : (upd H6 p (.lst (vs ++ [v6]))) p = some (.lst (vs ++ [v6])) := upd_same
    generalize upd H6 p (.lst (vs ++ [v6])) = H6' at g6' hp6
    have e6 := e5.mono g6.gg
    refine q_unl2 4 5 (K := K) (p := fun a b => (0 ≤ a ∧ a < 97) ∧ (0 ≤ b ∧ b < 5)) e6 g6' (ev_call0 (ms, 13 * (j : Int) + 12, [97, 5]) (ea_cons (ev_v e6) (ea_cons (ev_add (ev_mul ev_int (ev_v e6) (.inl ⟨by decide, by decide⟩)) ev_int) (ea_cons (ev_lst [.int 97, .int 5] (ea_cons ev_int (ea_cons ev_int ea_nil)) (by show 2 ≤ sizeLine; decide)) ea_nil))) ⟨by show 0 ≤ 13 * (j : Int) + 12; omega, hsz⟩) (by decide) (by decide) (fun d hd => dg2 hd) fun place by_ hdg σ7 G7 H7 e7 g7 gg7 => ?_
    obtain ⟨⟨c1, c1'⟩, ⟨c2, c2'⟩⟩ := hdg
    have hp7 := gg7.hh _ _ hp6
    have pG7 : G7 p = none := gg7.fr p pG6 (by rw [hp6]; intro z; cases z)
    have d7 := dpa_mono gg7.gg _ _ d6
    refine dict_names hC.nm.nd (ev_raw1 (ev_v e7)) g7.gh fun q1 kq G8 H8 hq1 q1G8 gg8 hq8 hD8 => ?_
    have g8 := g7.trans gg8
    have e8 := e7.mono gg8.gg
    have hr2l : r.2.length ≤ 200 := hC.it.len
    refine (ev_raw2 (ev_v (i := 3) (R := D K (dRaw r)) e8)) H8 g8.gh _ fun w9 G9 H9 gg9 r9 => ?_
    refine ⟨r.2, G9, gg9.gh, ⟨r9, trivial⟩, by omega, fun q2 kvs ks Ga Ha hq2 q2Ga gga hqa hDa hksl => ?_⟩
    have ga := (g8.trans gg9).trans gga
    have q10 : H q1 = none := g7.hh.free hq1
    have q20 : H q2 = none := (g8.trans gg9).hh.free hq2
    have sa := (gg9.trans gga)
    have hq1a := sa.hh _ _ hq8
    have q1Ga : Ga q1 = none := sa.fr q1 q1G8 (by rw [hq8]; intro z; cases z)
    have hpa := (gg8.trans sa).hh _ _ hp7
    have pGa : Ga p = none := (gg8.trans sa).fr p pG7 (by rw [hp7]; intro z; cases z)
    have n12 : q1 ≠ q2 := ne_of_none (gg9.hh _ _ hq8) hq2
    have np1 : p ≠ q1 := ne_of_none hp7 hq1
    have np2 : p ≠ q2 := ne_of_none ((gg8.trans gg9).hh _ _ hp7) hq2
    have da := dpa_mono ((gg8.trans sa).gg) _ _ d7
    have hDl := hD8.mono sa.gg
    have eb0 := ((e8.mono sa.gg).set (i := 6) (R := Rf q1) (by decide) rfl).set (i := 7) (R := Rf q2) (by decide) rfl
    refine ⟨_, _, rfl, ?_⟩
    have eb : Env 16 Ga _ [(7, Rf q2), (6, Rf q1), (5, D K (.int by_)), (4, D K (.int place)), (3, D K (dRaw r)), (1, Rf p), (0, D K (dInts ms))] := eb0.pick (eb0.pick (eb0.pick (eb0.pick (eb0.pick (eb0.pick (eb0.pick eb0.nil))))))
    generalize ((σ7.set 6 (some (V.ref q1))).set 7 (some (V.ref q2))) = σa at eb
    have ebh := eb.mono ga.gh
    have ec : Env 16 Ha σa [(7, DicP K ks (SpotF r.2)), (5, D K (.int by_))] := Env.seeD (ebh.pick (ebh.pick ebh.nil)) hqa (hDa.mono ga.gh)
    refine q_ifEJ (J := fun σ' H' => ∃ (Gx : Hp) (kq kvs : List (Key × V)) (ks : List Key) (ls : List Nm) (its : List Item), Gr G H Gx H' ∧ Same G' Gx ∧ Gx q1 = none ∧ Gx q2 = none ∧ Gx p = none ∧ H' q1 = some (.dK kq) ∧ H' q2 = some (.dK kvs) ∧ H' p = some (.lst (vs ++ [v6])) ∧ DpAll K Gx (vs ++ [v6]) ((rs ++ [r]).map dRaw) ∧ DicAt K Gx kq (nKeys ls) (LeadF ls) ∧ DicAt K Gx kvs ks (SpotF its) ∧ ks.length = its.length ∧ NamesOk ls ∧ ItemsOk ls its ∧ Env 16 Gx σ' [(6, Rf q1), (7, Rf q2), (1, Rf p), (0, D K (dInts ms))]) (et_or (et_test (ev_eqI (ev_v ec) ev_int)) fun _ => et_test (ev_isEmptyD (ev_v ec) ev_newD0)) ?_ (fun hb Hb sb kj => ?_) (fun hb Hb sb kj => ?_)
    · rintro σ' Hx ⟨Gx, kq, kvs, ks, ls, its, x1, x2, x3, x4, x5, x6, x7, x8, x9, x10, x11, x12, x13, x14, x15⟩
      have f1 := Env.freezeD x15 x3 x10
      have w1 := x1.freeze q10 x3 x6
      have sy : Same Gx (upd Gx q1 (.dK kq)) := same_upd x3
      have y4 : (upd Gx q1 (.dK kq)) q2 = none := by rw [upd_ne (fun z => n12 z.symm)]; exact x4
      have y5 : (upd Gx q1 (.dK kq)) p = none := by rw [upd_ne np1]; exact x5
      generalize upd Gx q1 (.dK kq) = Gy at f1 w1 sy y4 y5
      have f2 : Env 16 Gy σ' [(7, Rf q2), (6, LeadP K ls), (1, Rf p), (0, D K (dInts ms))] := f1.pick (f1.pick (f1.pick (f1.pick f1.nil)))
      have f3 := Env.freezeD f2 y4 (x11.mono sy)
      have w2 := w1.freeze q20 y4 x7
      have sz' : Same Gy (upd Gy q2 (.dK kvs)) := same_upd y4
      have u5 : (upd Gy q2 (.dK kvs)) p = none := by rw [upd_ne np2]; exact y5
      generalize upd Gy q2 (.dK kvs) = Gz at f3 w2 sz' u5
      have hvl2 : (vs ++ [v6]).length ≤ 1000 := by rw [dpa_len x9, List.length_map, List.length_append, z5]; show 1 + 2 * j + 1 ≤ 1000; omega
      refine w_append f3 w2.gh rfl x8 (Nat.lt_of_le_of_lt hvl2 (by decide)) (ev_call0 (ls, its, ks) (ea_cons (ev_v f3) (ea_cons (ev_v f3) ea_nil)) ⟨x13, x14, x12⟩) fun vc Gc Hc gc rc => ?_
      obtain ⟨r', ⟨hC', _, _⟩, rc⟩ := rc
      have pGc : Gc p = none := gc.fr p u5 (by rw [x8]; intro z; cases z)
      have gc' := (w2.trans gc).mut (o := .lst (vs ++ [v6] ++ [vc])) p0 pGc
      refine ⟨Gc, s1.trans (x2.trans (sy.trans (sz'.trans gc.gg))), gc'.gh, gc', pGc, _, rs ++ [r] ++ [r'], upd_same, ?_, ?_, fun y hy => ?_, (have e := f3.mono gc.gg; e.pick (e.pick e.nil))⟩
      · rw [List.map_append]
        exact dpa_app (dpa_mono (sy.trans (sz'.trans gc.gg)) _ _ x9) (dpa_one rc)
      · rw [List.length_append, List.length_append, z5]
        show 1 + 2 * j + 1 + 1 = 1 + 2 * (j + 1)
        omega
      · rcases List.mem_append.mp hy with hy | hy
        · rcases List.mem_append.mp hy with hy | hy
          · exact z6 y hy
          · rw [List.mem_singleton.mp hy]
            exact hC
        · rw [List.mem_singleton.mp hy]
          exact hC'
    · have hnl : 0 < r.1.length := List.length_pos_iff.mpr hne
      have i1 := Int.emod_nonneg place (show (r.1.length : Int) ≠ 0 by omega)
      have i2 := Int.emod_lt_of_pos place (show 0 < (r.1.length : Int) by omega)
      obtain ⟨ix, hix⟩ := Int.eq_ofNat_of_zero_le i1
      rw [hix] at i2
      have hpp := List.getElem?_eq_getElem (l := r.1) (i := ix) (by omega)
      generalize r.1[ix]'(by omega) = pp at hpp
      have hpm : pp ∈ r.1 := List.mem_of_getElem? hpp
      have hxm : pp.1 ∈ r.1.map (·.1) := List.mem_map_of_mem hpm
      have gb := ga.grow sb
      have hl6 : r.1.length ≤ 6 := hC.nm.len
      refine w_dput (K := K) (key := .inr pp.1) (R := D K (.int 0)) eb gb.gh rfl (sb _ _ hq1a) (by rw [hDl.len]; unfold nKeys; rw [List.length_map, List.length_map]; exact Nat.lt_of_le_of_lt (by omega : r.1.length ≤ 1000) (by decide)) ev_int (ev_ixT (ds := [.str pp.1, .int pp.2]) (ev_ixL (ds := r.1.map OB.dNm) (i := (ix : Int)) (ev_raw1 (ev_v eb)) ((ev_mod (ev_v eb) (ev_lenL (ev_raw1 (ev_v eb))) (by rw [List.length_map]; omega)).is (by rw [List.length_map, hix])) (atI_nat (by rw [List.getElem?_map, hpp]; rfl))) ev_int rfl) fun v9 Gz Hz gz rz => ?_
      have pGz : Gz p = none := gz.fr p pGa (by rw [sb _ _ hpa]; intro z; cases z)
      have q1Gz : Gz q1 = none := gz.fr q1 q1Ga (by rw [sb _ _ hq1a]; intro z; cases z)
      have q2Gz : Gz q2 = none := gz.fr q2 q2Ga (by rw [sb _ _ hqa]; intro z; cases z)
      have gz' := (gb.trans gz).mut (o := .dK (putK kq (.inr pp.1) v9)) q10 q1Gz
      obtain ⟨dd, hdd⟩ := lead_old hxm
      have hdz := (hDl.mono gz.gg).putO hdd rz
      rw [lead_set r.1 pp.1 0 hxm] at hdz
      refine kj _ _ ⟨Gz, _, kvs, ks, setN r.1 pp.1 0, r.2, gz', (gg5.gg.trans g6.gg).trans ((gg7.trans (gg8.trans sa)).gg.trans gz.gg), q1Gz, q2Gz, pGz, upd_same, by rw [upd_ne (fun z => n12 z.symm)]; exact gz.hh _ _ (sb _ _ hqa), by rw [upd_ne np1]; exact gz.hh _ _ (sb _ _ hpa), dpa_mono gz.gg _ _ da, ?_, hDa.mono gz.gg, hksl, setN_ok hC.nm, ⟨hC.it.len, hC.it.it, fun y hy => ?_, by unfold setN; rw [List.length_map]; exact hl6⟩, (have e := eb.mono gz.gg; e.pick (e.pick (e.pick (e.pick e.nil))))⟩
      · unfold nKeys at hdz ⊢
        rw [setN_fst]
        exact hdz
      · exact isTgt_iff.mpr (setN_rng (fun y hy => isTgt_iff.mp (hC.it.nt y hy)) ⟨by omega, by omega⟩ y hy)
    · have hb2 : decide (ks.length = 0) = false := by
        cases hq : decide (by_ = 0)
        · rw [hq] at hb
          exact hb
        · rw [hq] at hb
          cases hb
      have hkl : ¬ ks.length = 0 := of_decide_eq_false hb2
      have i1 := Int.emod_nonneg place (show (ks.length : Int) ≠ 0 by omega)
      have i2 := Int.emod_lt_of_pos place (show 0 < (ks.length : Int) by omega)
      obtain ⟨ix, hix⟩ := Int.eq_ofNat_of_zero_le i1
      rw [hix] at i2
      have hixl : ix < r.2.length := by omega
      have hit := List.getElem?_eq_getElem hixl
      have him : r.2[ix] ∈ r.2 := List.getElem_mem hixl
      generalize r.2[ix] = it at hit him
      have gb := ga.grow sb
      have hok : OkIt (r.2.length : Int) it := hC.it.it it him
      have hsp : SpotF r.2 (.inl (1 + (ix : Int))) = some (.tuple [.str it.1, tInts it.2]) := spot_get (by omega) (by rw [show (1 + (ix : Int) - 1).toNat = ix by omega]; exact hit)
      have key : ∀ σ' H', Same Ha H' → Env 16 H' σ' [(7, DicP K ks (SpotF r.2)), (4, D K (.int place))] → Ev (tOp (rI0 fun i j => .int (i + j)) (tC (.int 1)) (tOp (rI (fun _ j => 0 < j) fun i j => .int (i % j)) (tVar 4) (tCB rLenD (tCons (tVar 7) tNil)))) σ' H' (D K (.int (1 + (ix : Int)))) := fun σ' H' _ en => (ev_add ev_int (ev_mod (ev_v en) (ev_lenDK (ev_v en)) (by omega))).is (by rw [hix])
      have seeB : ∀ σ' H', Same Ha H' → Env 16 H' σ' [(7, Rf q2), (4, D K (.int place))] → Env 16 H' σ' [(7, DicP K ks (SpotF r.2)), (4, D K (.int place))] := fun σ' H' s en => Env.seeD en (s _ _ hqa) (hDa.mono (ga.gh.trans s))
      refine q_dgetTup (K := K) 8 9 eb gb rfl (sb _ _ hqa) hDa (key _ _ sb (seeB _ _ sb (have e := eb.mono gb.gh; e.pick (e.pick e.nil)))) hsp (by decide) (by decide) fun σc Hc ec gc sc => ?_
      have sac := sb.trans sc
      have hlen2 : it.2.length ≤ 2 := hok.2.2
      refine w_dputF (K := K) (key := .inl (1 + (ix : Int))) (R := D K (dIt (if by_ < 3 then (it.1, List.replicate it.2.length 0) else ("cell", [1, -1])))) ec gc.gh rfl (sac _ _ hqa) (by rw [hDa.len, hksl]; exact Nat.lt_of_le_of_lt (by omega : r.2.length ≤ 1000) (by decide)) (ev_if (et_test (ev_lt (ev_v ec) ev_int)) (fun hlt => ?_) fun hlt => ?_) (fun H' s' => key _ _ (sac.trans s') (seeB _ _ (sac.trans s') (have e := ec.mono (gc.gh.trans s'); e.pick (e.pick e.nil)))) fun v9 Gz Hz w1 w2 w3 w4 w5 => ?_
      · rw [if_pos (of_decide_eq_true hlt)]
        exact ev_tup [.str it.1, tInts (List.replicate it.2.length 0)] (ea_cons (ev_v ec) (ea_cons (ev_rep0 (ev_tup [.int 0] (ea_cons ev_int ea_nil) (by show 1 ≤ sizeLine; decide)) ((ev_lenT (ev_v ec)).is (by rw [List.length_map])) (by omega)) ea_nil)) (by show 2 ≤ sizeLine; decide)
      · rw [if_neg (of_decide_eq_false hlt)]
        exact ev_tup [.str "cell", tInts [1, -1]] (ea_cons ev_str (ea_cons (ev_tup [.int 1, .int (-1)] (ea_cons ev_int (ea_cons ((ev_sub ev_int ev_int).is rfl) ea_nil)) (by show 2 ≤ sizeLine; decide)) ea_nil)) (by show 2 ≤ sizeLine; decide)
      have hOk : OkIt (r.2.length : Int) (if by_ < 3 then (it.1, List.replicate it.2.length 0) else ("cell", [1, -1])) := by
        split
        · exact okIt_zero hok
        · exact okIt_cell (by omega)
      generalize (if by_ < 3 then ((it.1, List.replicate it.2.length 0) : Item) else ("cell", [1, -1])) = nit at w5 hOk
      have pGz : Gz p = none := w4 p pGa (by rw [sac _ _ hpa]; intro z; cases z)
      have q1Gz : Gz q1 = none := w4 q1 q1Ga (by rw [sac _ _ hq1a]; intro z; cases z)
      have q2Gz : Gz q2 = none := w4 q2 q2Ga (by rw [sac _ _ hqa]; intro z; cases z)
      have gz0 : Gr Ga Hc Gz Hz := ⟨w1, w3, w2, w4⟩
      have gz' := (gc.trans gz0).mut (o := .dK (putK kvs (.inl (1 + (ix : Int))) v9)) q20 q2Gz
      have hdz := (hDa.mono w1).putO hsp w5
      have hset := spot_set r.2 ix nit hixl
      rw [show ((ix : Int) + 1) = 1 + (ix : Int) by omega] at hset
      rw [hset] at hdz
      refine kj _ _ ⟨Gz, kq, _, ks, r.1, r.2.set ix nit, gz', (gg5.gg.trans g6.gg).trans ((gg7.trans (gg8.trans sa)).gg.trans w1), q1Gz, q2Gz, pGz, by rw [upd_ne n12]; exact w2 _ _ (sac _ _ hq1a), upd_same, by rw [upd_ne np2]; exact w2 _ _ (sac _ _ hpa), dpa_mono w1 _ _ da, hDl.mono w1, hdz, by rw [List.length_set]; exact hksl, hC.nm, itemsOk_set hC.it hOk, (have e := ec.mono w1; e.pick (e.pick (e.pick (e.pick e.nil))))⟩
  rintro σ4 G4 H4 s1 s2 ⟨z1, z2, vs, rs, z3, z4, z5, z6, z7⟩
  have hrl : rs.length = 9 := z5
  have f1 := Env.freezeL z7 z2 z4
  have w1 := z1.freeze p0 z2 z3
  generalize upd G4 p (.lst vs) = G5 at f1 w1
  refine q_asg 10 f1 w1 (R := LstOf K (rs.map fun r => WebP K C r)) (ev_lcW rs (fun r => WebP K C r) (src_list (ev_v f1)) (by omega) f1 lk0 (by decide) fun r σx Gx hr _ ex => ?_) (by decide) fun σ6 G6 H6 e6 g6 _ => ?_
  · have hC := z6 r hr
    exact ev_callP (ev_call0 (r, 5 * ((r.2.map dIt).length : Int) + 1) (ea_cons (ev_v ex) (ea_cons (ev_add (ev_mul ev_int (ev_lenL (ev_raw2 (ev_v ex))) (.inl ⟨by decide, by decide⟩)) ev_int) ea_nil)) ⟨hC, by show 0 ≤ 5 * ((r.2.map dIt).length : Int) + 1; omega⟩) fun b ⟨hw, hm⟩ => ⟨b, rfl, hw, fun v G ⟨r', M, hh⟩ => (show r' = r from hm r' M) ▸ hh⟩
  have hzip : ∀ {σ' G'}, Env 16 G' σ' [(10, LstOf K (rs.map fun r => WebP K C r)), (1, D K (.list (rs.map dRaw)))] → SrcP K (iZip K (tCons (tVar 10) (tCons (tVar 1) tNil))) σ' G' (rs.map fun r => WebP K C r) ((rs.map dRaw).map (D K)) := fun en => srcP_zip (ev_v en) ((ev_v (i := 1) en).imp fun v G h => lst_of_D h) (by simp)
  have gr : ∀ {k : Nat} {R S : Pr}, (rs.map fun r => WebP K C r)[k]? = some R → ((rs.map dRaw).map (D K))[k]? = some S → ∃ r, r ∈ rs ∧ R = WebP K C r ∧ S = D K (dRaw r) := fun h1 h2 => by
    rename_i k R S
    rw [List.getElem?_map] at h1 h2
    rw [List.getElem?_map] at h2
    cases q : rs[k]? with
    | none => rw [q] at h1; cases h1
    | some r =>
      rw [q] at h1 h2
      exact ⟨r, List.mem_of_getElem? q, (Option.some.inj h1).symm, (Option.some.inj h2).symm⟩
  have e6' : Env 16 G6 σ6 [(10, LstOf K (rs.map fun r => WebP K C r)), (1, D K (.list (rs.map dRaw)))] := e6.pick (e6.pick e6.nil)
  refine q_forP g6.gh (hzip e6') fun G7 H7 g7 => ⟨fun j σ' G' H' => Gr G H G' H' ∧ Env 16 G' σ' [(10, LstOf K (rs.map fun r => WebP K C r)), (1, D K (.list (rs.map dRaw)))], ⟨g6.trans g7, e6'.mono g7.gg⟩, ?_, ?_⟩
  · rintro j R S Tt v1 v2 σ' G' H' hR hS s1 s2 r1 r2 ⟨y1, y2⟩ hT
    obtain ⟨r, hrm, rfl, rfl⟩ := gr hR hS
    have hC := z6 r hrm
    have hX := hC.txt
    have hS' := hC.rawS
    refine g_pair ?_
    have e7 := (y2.set (i := 11) (R := WebP K C r) (by decide) r1).set (i := 3) (R := D K (dRaw r)) (by decide) r2
    have g7' := y1.grow (same_upd (o := .tup [v1, v2]) hT)
    have eR : ∀ {σ G te}, Ev te σ G (WebP K C r) → Ev (tCB (rReprO C (sp_repr K C)) (tCons te tNil)) σ G (D K (.str (textOf r))) := fun h => ev_reprW h hX
    have hText : Ev (tCall (sp_text K) [] E0 (tCons (tVar 3) tNil)) ((σ'.set 11 (some v1)).set 3 (some v2)) G' (D K (.str (textOf r))) := ev_call0 r (ea_cons (ev_v e7) ea_nil) ⟨hX, hS'⟩
    have hSame : Ev (tCall (sp_same K) [] E0 (tCons (tCB (rReprO C (sp_repr K C)) (tCons (tVar 11) tNil)) (tCons (tCall (sp_text K) [] E0 (tCons (tVar 3) tNil)) tNil))) ((σ'.set 11 (some v1)).set 3 (some v2)) G' (D K (.bool true)) := ev_call0 (PyData.str (textOf r)) (ea_cons (eR (ev_v e7)) (ea_cons hText ea_nil)) (SameD.str (text_len hX) (text_ok hX hS'))
    refine q_if e7 g7' (et_orFF (et_notT (et_B hSame)) (et_orFF (et_test (ev_eqW (o := .txt (textOf r)) WT.qt (ev_v e7) (eR (ev_v e7)) hS' trivial)) (et_test (ev_eqW (o := .raw r) WT.qt (ev_v e7) (ev_v e7) hS' trivial)))) (fun hb => nomatch hb) fun _ G8 H8 e8 g8 gg8 => ?_
    have hlI : r.2.length ≤ 200 := hC.it.len
    refine q_asg 12 e8 g8 (R := D K (.list ((r.2.map dIt).filter fun d => !decide (wordOf d = "cell")))) ((ev_lcF (fun d => !decide (wordOf d = "cell")) (fun d => d) (src_list (ev_raw2 (ev_v e8))) (by rw [List.length_map]; omega) fun i d v Gi q1 q2 q3 => ?_).is (by rw [List.map_id'])) (by decide) fun σ9 G9 H9 e9 g9 gg9 => ?_
    · rw [List.getElem?_map] at q1
      cases q : r.2[i]? with
      | none => rw [q] at q1; cases q1
      | some it =>
        rw [q] at q1
        cases q1
        have ei := (((e8.wipe1 (i := 13) (l' := []) lk0).mono q2).set (i := 13) (R := D K (dIt it)) (by decide) q3)
        exact ⟨_, tg_name, wipe_set1, et_test (ev_neS (ev_ixT (ds := [.str it.1, tInts it.2]) (ev_v ei) ev_int rfl) ev_str), fun _ => ev_v ei⟩
    have shp : SeqAt.shaped (.list ((r.2.map dIt).filter fun d => !decide (wordOf d = "cell"))) = true := (sh_list (n := 2) fun d hd => by
      obtain ⟨it, hi, rfl⟩ := List.mem_map.mp (List.mem_filter.mp hd).1
      exact sh_it (hS'.2 it hi)).ok
    refine q_if e9 g9 (et_notT (et_B (ev_call0 (two r.2.length (heapB r.2)) (ea_cons (ev_lst [.int (r.2.length : Nat), .bool (heapB r.2)] (ea_cons (ev_lenW (ev_v e9) (by omega)) (ea_cons (ev_heapW (ev_v e9) (by omega)) ea_nil)) (by show 2 ≤ sizeLine; decide)) (ea_cons (ev_lst [.int (r.2.length : Nat), .bool (heapB r.2)] (ea_cons ((ev_lenL (ev_raw2 (ev_v e9))).is (by rw [List.length_map])) (ea_cons ((ev_eqD (ev_v e9) (ev_lst [] ea_nil (Nat.zero_le _)) shp (by decide)).is (by rw [eqv_list_nil, heap_eq])) ea_nil)) (by show 2 ≤ sizeLine; decide)) ea_nil)) (SameD.two (by omega))))) (fun hb => nomatch hb) fun _ Ga Ha ea ga gga => ?_
    have ea' : Env 16 Ga σ9 [(10, LstOf K (rs.map fun r => WebP K C r)), (1, D K (.list (rs.map dRaw))), (11, WebP K C r), (3, D K (dRaw r))] := ea.pick (ea.pick (ea.pick (ea.pick ea.nil)))
    refine q_forP ga.gh (hzip (ea'.pick (ea'.pick ea'.nil))) fun Gb Hb gb => ⟨fun j σ' G' H' => Gr G H G' H' ∧ Env 16 G' σ' [(10, LstOf K (rs.map fun r => WebP K C r)), (1, D K (.list (rs.map dRaw))), (11, WebP K C r), (3, D K (dRaw r))], ⟨ga.trans gb, ea'.mono gb.gg⟩, ?_, ?_⟩
    · rintro j2 R S T2 u1 u2 σ' Gc Hc hR hS t1 t2 w1 w2 ⟨x1, x2⟩ hT2
      obtain ⟨r', hrm', rfl, rfl⟩ := gr hR hS
      have hC' := z6 r' hrm'
      refine g_pair ?_
      have ec := (x2.set (i := 14) (R := WebP K C r') (by decide) w1).set (i := 15) (R := D K (dRaw r')) (by decide) w2
      have gc := x1.grow (same_upd (o := .tup [u1, u2]) hT2)
      have eq1 : Ev (tOp (rEqO K C (sp_eq K C)) (tVar 11) (tVar 14)) _ Gc (D K (.bool (decide (r = r')))) := ev_eqW (o := .web r') WT.qt (ev_v ec) (ev_v (i := 14) ec) hS' hC'.rawS
      have eq2 : Ev (tOp (rEqD K) (tVar 3) (tVar 15)) _ Gc (D K (.bool (decide (r = r')))) := (ev_eqD (ev_v ec) (ev_v ec) (sh_raw hS').ok (sh_raw hC'.rawS).ok).is (by rw [eqv_raw])
      have eq3 : Ev (tOp (rNeO C (sp_eq K C)) (tVar 11) (tVar 14)) _ Gc (D K (.bool (!decide (r = r')))) := ev_neW (ev_v ec) (ev_v ec) hS' hC'.rawS
      refine w_ifN ec gc (et_orFF ((et_test (ev_neB eq1 eq2)).is (by simp)) ((et_test (ev_eqB eq3 eq2)).is (by cases decide (r = r') <;> rfl))) (fun hb => nomatch hb) fun _ Gd Hd ed gd2 ggd => ?_
      exact ⟨Gd, t1.trans ggd.gg, gd2.gh, gd2, ed.pick (ed.pick (ed.pick (ed.pick ed.nil)))⟩
    rintro σb Gc Hc t1 t2 ⟨x1, x2⟩
    obtain ⟨hw, hm⟩ := canon_web hC
    have hMade : Ev (tCall (sp_made K C) [] E0 (tCons (tVar 3) tNil)) σb Gc (PrE (Made r.1 r.2) fun r => WebP K C r) := ev_call0 r (ea_cons (ev_v x2) ea_nil) hw
    have hMade' : Ev (tCall (sp_made K C) [] E0 (tCons (tVar 3) tNil)) σb Gc (OthP K C (.web r)) := hMade.imp fun v G ⟨r', M, hh⟩ => (show r' = r from hm r' M) ▸ hh
    refine w_ifN x2 x1 (et_notT ((et_test (ev_eqW (o := .web r) WT.qt (ev_v x2) hMade' hS' hS')).is (by show decide (r = r) = true; simp))) (fun hb => nomatch hb) fun _ Gd Hd ed gd2 ggd => ?_
    exact ⟨Gd, s1.trans ((gg8.gg.trans gg9.gg).trans ((gga.gg.trans gb.gg).trans (t1.trans ggd.gg))), gd2.gh, gd2, ed.pick (ed.pick ed.nil)⟩
  rintro σ8 G8 H8 s1 s2 ⟨y1, y2⟩
  obtain ⟨hw, hm⟩ := canon_web canon_nil
  have hT' : ∀ G : Hp, AllR G [.ref T0, .ref T1] [NmsP K [], ItsP K []] := fun G => ⟨.inr (.tup (hT G).1 .nil), .inr (.tup (hT G).2 .nil), trivial⟩
  have w0 : ∀ {σ G}, Ev (tMake C (sp_init K C) [.ref T0, .ref T1] E0 tNil) σ G (WebP K C ([], [])) := (ev_make (names := []) (items := []) (Rs := []) (Ds := [NmsP K [], ItsP K []]) ea_nil hT' rfl hw).imp fun v G ⟨r', M, hh⟩ => by rw [← hm r' M]; exact hh
  have w1 : ∀ {σ G}, Ev (tMake C (sp_init K C) [] E0 (tCons (tLst tNil) (tCons (tTup tNil) tNil))) σ G (WebP K C ([], [])) := (ev_make (names := []) (items := []) (dvs := []) (Rs := [NmsP K [], ItsP K []]) (Ds := []) (ea_cons ((ev_lst [] ea_nil (Nat.zero_le _)).imp fun _ _ h => .inl h) (ea_cons ((ev_tup [] ea_nil (Nat.zero_le _)).imp fun _ _ h => .inr h) ea_nil)) (fun _ => trivial) rfl hw).imp fun v G ⟨r', M, hh⟩ => by rw [← hm r' M]; exact hh
  refine w_ret y1 (Ev.is (ev_andV (ev_eqW (o := .web ([], [])) WT.qt w0 w1 canon_nil.rawS canon_nil.rawS) fun _ => ev_andV (ev_eqS (ev_reprW w0 canon_nil.txt) ev_str) fun _ => ev_eqI (ev_lenW w0 (by decide)) ev_int) ?_) k
  exact congrArg PyData.bool (by decide +kernel)
end
end K3
set_option Elab.async false
set_option linter.all false
set_option maxRecDepth 100000
set_option maxHeartbeats 1000000
namespace K3
open PySem L2 OB
/-! what the top has written -/
def fnTyB (K : Fg) (f : Addr) : Bool := match K.lookup f with
  | some ⟨.type c, _, .func _, _⟩ => decide (c = "function")
  | _ => false
theorem fnTyB_ok {K : Fg} {f : Addr} (h : fnTyB K f = true) : ∃ dd fd sl, K.lookup f = some ⟨.type "function", dd, .func fd, sl⟩ := by
  unfold fnTyB at h
  cases q : K.lookup f with
  | none =>
    rw [q] at h
    cases h
  | some o =>
    obtain ⟨oc, od, dt, osl⟩ := o
    rw [q] at h
    cases oc with
    | type c =>
      cases dt with
      | func fd =>
        have e : c = "function" := of_decide_eq_true h
        subst e
        exact ⟨od, fd, osl, rfl⟩
      | _ => cases h
    | _ => cases dt <;> cases h
def fn : List He.DefD := [dD "is_small_word" s_is_small_word, dD "need_names" s_need_names, dD "need_targets" s_need_targets, dD "is_item" s_is_item, dD "is_target" s_is_target, dD "met_points" s_met_points, dD "meet" s_meet, dD "new_numbers" s_new_numbers, dD "renumbered" s_renumbered, dD "shown_words" s_shown_words, dD "shown_target" s_shown_target, dD "_law_cell" s_cell, dD "_law_digits" s_digits, dD "_law_same" s_same, dD "_law_names" s_names, dD "_law_met" s_met, dD "_law_canon" s_canon, dD "_law_spots" s_spots, dD "_law_made" s_made, dD "_law_mark" s_mark, dD "_law_text" s_text, dD "_law_raw" s_raw, dD "_law_turned" s_turned, dD "law" s_law, dM "Web" "__repr__" "Web.__repr__" s_repr, dM "Web" "__len__" "Web.__len__" s_len, dM "Web" "__eq__" "Web.__eq__" s_eq, dM "Web" "is_heap" "Web.is_heap" s_heap, ⟨("Web", some "__init__"), "__init__", "Web.__init__", defArgs s_init, defBody s_init, defScope s_init, [.adr (He.dflAt ("Web", some "__init__") 0), .adr (He.dflAt ("Web", some "__init__") 1)], []⟩]
def fa : List He.Fa := [.glo "is_small_word", .glo "need_names", .glo "need_targets", .glo "is_item", .glo "is_target", .glo "met_points", .glo "meet", .glo "new_numbers", .glo "renumbered", .glo "shown_words", .glo "shown_target", .glo "_law_cell", .glo "_law_digits", .glo "_law_same", .glo "_law_names", .glo "_law_met", .glo "_law_canon", .glo "_law_spots", .glo "_law_made", .glo "_law_mark", .glo "_law_text", .glo "_law_raw", .glo "_law_turned", .glo "law", .meth "Web" "__repr__", .meth "Web" "__len__", .meth "Web" "__eq__", .meth "Web" "is_heap", .glo "Web", .cls "Web", .noat "Web" "name_pairs", .noat "Web" "item_pairs", .mkr "Web", .str "SMALL_LETTERS" "abcdefghijklmnopqrstuvwxyz", .str "CELL" "cell", .str "EMPTY" "empty", .int "CELL_TARGETS" 2, .int "MOST_TARGETS" 2, .int "MOST_NAMES" 6, .int "MOST_POINTS" 200, .int "NOTHING" 0, .int "GONE" (-1)] ++ bnames.map He.Fa.free
def exs (K : Fg) : List Bool := [decide (PySem.W.findIn K (.ref (He.ga K "Web")) "__class__" = some (some (.builtin "object.__class__"))), decide (PySem.W.specialIn K (.builtin "object.__class__") "__get__" = some (some (.builtin "getset_descriptor.__get__"))), decide (PySem.W.takesIn K (.builtin "object.__class__") = some true), decide (PySem.W.mroIn K (He.ga K "Web") (.type "object") = some true), decide (PySem.W.kitOne K (.type "str") (.ref (He.ga K "Web")) = some false), decide (PySem.W.kitOne K (.type "tuple") (.ref (He.ga K "Web")) = some false), decide (PySem.W.kitOne K (.type "str") (.type "dict") = some false), decide (PySem.W.kitOne K (.type "list") (.type "dict") = some false), PySem.W.notFirst K (He.ga K "Web") (.ref (He.ga K "Web")), PySem.W.notFirst K (He.ga K "Web") (.type "str"), PySem.W.notFirst K (He.ga K "Web") (.type "tuple"), neIn K (He.ga K "Web") (He.ma K (He.ga K "Web") "__eq__"), fnTyB K (He.ma K (He.ga K "Web") "__eq__"), tup0B K (He.dflAt ("Web", some "__init__") 0 K), tup0B K (He.dflAt ("Web", some "__init__") 1 K)]
def ex (K : Fg) : Bool := (exs K).all id
section
variable {K : Fg} {h : Heap} {mg : Str → Option Value}
theorem tx_of (c : He.SaysD fa fn K) (X : K.In h) (G : h.Ns mainGlobals mg) : Tx mg := ⟨fun x hx => by
    exact He.free_ok X G (c.facts (List.mem_append_right _ (List.mem_map_of_mem hx))), He.str_ok X G (c.fact 33), He.str_ok X G (c.fact 34), He.str_ok X G (c.fact 35), He.int_ok X G (c.fact 36), He.int_ok X G (c.fact 37), He.int_ok X G (c.fact 38), He.int_ok X G (c.fact 39), He.int_ok X G (c.fact 40), He.int_ok X G (c.fact 41)⟩
theorem all_mk {P : Program} {w : World} {f1 : Addr} (X : K.In h) (G : h.Ns mainGlobals mg) (hfa : mg "law" = some (.ref f1)) (c : He.SaysD fa fn K) (m : ex K = true) :
    ∃ fd : FuncData, (∀ (s : Shared) (u : Value), BindsTo s fd ⟨[u], []⟩ [("_law_script", u)]) ∧ ∀ base : Heap, K.In base → base.Ns mainGlobals mg → FnG P w K mg base 9 f1 fd ["_law_script"] (sp_law K) := by
  have T := tx_of c X G
  have mgC := He.glo_ok X G (c.fact 28 (f := .glo "Web"))
  have TC : CTx K (He.ga K "Web") := ⟨He.cls_ok (c.fact 29), He.noat_ok (c.fact 30), He.noat_ok (c.fact 31)⟩
  have TE : ETx K (He.ga K "Web") mg := ⟨mgC, bAtD m 0, bAtD m 1, bAtD m 2, bAtD m 3, bAtD m 4, bAtD m 5⟩
  have f_s_is_small_word := fd_of (x := "is_small_word") (st := s_is_small_word) (ps := ["text", "least", "most"]) c X G 0 0 fun _ _ _ _ _ _ us hl => match us, hl with | [_, _, _], _ => rfl
  have f_s_need_names := fd_of (x := "need_names") (st := s_need_names) (ps := ["name_pairs"]) c X G 1 1 fun _ _ _ _ _ _ us hl => match us, hl with | [_], _ => rfl
  have f_s_need_targets := fd_of (x := "need_targets") (st := s_need_targets) (ps := ["name_pairs", "item_pairs"]) c X G 2 2 fun _ _ _ _ _ _ us hl => match us, hl with | [_, _], _ => rfl
  have f_s_is_item := fd_of (x := "is_item") (st := s_is_item) (ps := ["item", "points"]) c X G 3 3 fun _ _ _ _ _ _ us hl => match us, hl with | [_, _], _ => rfl
  have f_s_is_target := fd_of (x := "is_target") (st := s_is_target) (ps := ["target", "points"]) c X G 4 4 fun _ _ _ _ _ _ us hl => match us, hl with | [_, _], _ => rfl
  have f_s_met_points := fd_of (x := "met_points") (st := s_met_points) (ps := ["name_pairs", "item_pairs"]) c X G 5 5 fun _ _ _ _ _ _ us hl => match us, hl with | [_, _], _ => rfl
  have f_s_meet := fd_of (x := "meet") (st := s_meet) (ps := ["targets", "order", "met"]) c X G 6 6 fun _ _ _ _ _ _ us hl => match us, hl with | [_, _, _], _ => rfl
  have f_s_new_numbers := fd_of (x := "new_numbers") (st := s_new_numbers) (ps := ["order"]) c X G 7 7 fun _ _ _ _ _ _ us hl => match us, hl with | [_], _ => rfl
  have f_s_renumbered := fd_of (x := "renumbered") (st := s_renumbered) (ps := ["item", "numbers"]) c X G 8 8 fun _ _ _ _ _ _ us hl => match us, hl with | [_, _], _ => rfl
  have f_s_shown_words := fd_of (x := "shown_words") (st := s_shown_words) (ps := ["name_pairs", "item_pairs"]) c X G 9 9 fun _ _ _ _ _ _ us hl => match us, hl with | [_, _], _ => rfl
  have f_s_shown_target := fd_of (x := "shown_target") (st := s_shown_target) (ps := ["target"]) c X G 10 10 fun _ _ _ _ _ _ us hl => match us, hl with | [_], _ => rfl
  have f_s_cell := fd_of (x := "_law_cell") (st := s_cell) (ps := ["_law_script", "_law_k"]) c X G 11 11 fun _ _ _ _ _ _ us hl => match us, hl with | [_, _], _ => rfl
  have f_s_digits := fd_of (x := "_law_digits") (st := s_digits) (ps := ["_law_script", "_law_k", "_law_sizes"]) c X G 12 12 fun _ _ _ _ _ _ us hl => match us, hl with | [_, _, _], _ => rfl
  have f_s_same := fd_of (x := "_law_same") (st := s_same) (ps := ["_law_one", "_law_other"]) c X G 13 13 fun _ _ _ _ _ _ us hl => match us, hl with | [_, _], _ => rfl
  have f_s_names := fd_of (x := "_law_names") (st := s_names) (ps := ["_law_script", "_law_k", "_law_many"]) c X G 14 14 fun _ _ _ _ _ _ us hl => match us, hl with | [_, _, _], _ => rfl
  have f_s_met := fd_of (x := "_law_met") (st := s_met) (ps := ["_law_leads", "_law_spots_here"]) c X G 15 15 fun _ _ _ _ _ _ us hl => match us, hl with | [_, _], _ => rfl
  have f_s_canon := fd_of (x := "_law_canon") (st := s_canon) (ps := ["_law_leads", "_law_spots_here"]) c X G 16 16 fun _ _ _ _ _ _ us hl => match us, hl with | [_, _], _ => rfl
  have f_s_spots := fd_of (x := "_law_spots") (st := s_spots) (ps := ["_law_items"]) c X G 17 17 fun _ _ _ _ _ _ us hl => match us, hl with | [_], _ => rfl
  have f_s_made := fd_of (x := "_law_made") (st := s_made) (ps := ["_law_raw_here"]) c X G 18 18 fun _ _ _ _ _ _ us hl => match us, hl with | [_], _ => rfl
  have f_s_mark := fd_of (x := "_law_mark") (st := s_mark) (ps := ["_law_target"]) c X G 19 19 fun _ _ _ _ _ _ us hl => match us, hl with | [_], _ => rfl
  have f_s_text := fd_of (x := "_law_text") (st := s_text) (ps := ["_law_raw_here"]) c X G 20 20 fun _ _ _ _ _ _ us hl => match us, hl with | [_], _ => rfl
  have f_s_raw := fd_of (x := "_law_raw") (st := s_raw) (ps := ["_law_script", "_law_k", "_law_words", "_law_most"]) c X G 21 21 fun _ _ _ _ _ _ us hl => match us, hl with | [_, _, _, _], _ => rfl
  have f_s_turned := fd_of (x := "_law_turned") (st := s_turned) (ps := ["_law_raw_here", "_law_by"]) c X G 22 22 fun _ _ _ _ _ _ us hl => match us, hl with | [_, _], _ => rfl
  have f_s_law := fd_of (x := "law") (st := s_law) (ps := ["_law_script"]) c X G 23 23 fun _ _ _ _ _ _ us hl => match us, hl with | [_], _ => rfl
  obtain ⟨fd_s_repr, F_s_repr, a_s_repr, i_s_repr, k_s_repr, b_s_repr⟩ := meth_of (C := "Web") (m := "__repr__") (qual := "Web.__repr__") (st := s_repr) c 24 24
  have b_s_repr := b_s_repr ["self"] fun _ _ _ _ _ _ us hl => match us, hl with | [_], _ => rfl
  obtain ⟨fd_s_len, F_s_len, a_s_len, i_s_len, k_s_len, b_s_len⟩ := meth_of (C := "Web") (m := "__len__") (qual := "Web.__len__") (st := s_len) c 25 25
  have b_s_len := b_s_len ["self"] fun _ _ _ _ _ _ us hl => match us, hl with | [_], _ => rfl
  obtain ⟨fd_s_eq, F_s_eq, a_s_eq, i_s_eq, k_s_eq, b_s_eq⟩ := meth_of (C := "Web") (m := "__eq__") (qual := "Web.__eq__") (st := s_eq) c 26 26
  have b_s_eq := b_s_eq ["self", "other"] fun _ _ _ _ _ _ us hl => match us, hl with | [_, _], _ => rfl
  obtain ⟨fd_s_heap, F_s_heap, a_s_heap, i_s_heap, k_s_heap, b_s_heap⟩ := meth_of (C := "Web") (m := "is_heap") (qual := "Web.is_heap") (st := s_heap) c 27 27
  have b_s_heap := b_s_heap ["self"] fun _ _ _ _ _ _ us hl => match us, hl with | [_], _ => rfl
  have neh : NeH K (He.ga K "Web") (He.ma K (He.ga K "Web") "__eq__") [.type "object"] := neH_of (bAt m 11) (fnTyB_ok (bAt m 12))
  obtain ⟨fdi, Fi⟩ := c.def_ 28
  obtain ⟨e1, v1, b1⟩ := Fi.binds1 (ps := ["self", "names", "items"]) 3 2 (by simp [He.DefD.dvs]) rfl fun T kV doc pm an cdv ct us its h1 h2 => match us, its, h1, h2 with | [_, _, _], [_, _], _, _ => ⟨_, rfl, rfl⟩
  obtain ⟨e2, v2, b2⟩ := Fi.binds1 (ps := ["self", "names", "items"]) 1 0 (by simp [He.DefD.dvs]) rfl fun T kV doc pm an cdv ct us its h1 h2 => match us, its, h1, h2 with | [_], [_, _], _, _ => ⟨_, rfl, rfl⟩
  have e1' : e1 = [] := by cases v1; rfl
  subst e1'
  obtain ⟨f, fd, g1, g2, g3⟩ := f_s_law.ex
  have efa : f = f1 := by
    rw [hfa] at g2
    cases g2
    rfl
  subst efa
  refine ⟨fd, fun s u => ?_, fun base _ _ => ?_⟩
  · obtain ⟨oc, od, kV, doc, pm, an, cdv, ct, osl, rfl, lk, hcd⟩ := g1.ex
    exact .of_eq rfl
  · have D9 := ok_is_small_word (P := P) (w := w) (base := base) T f_s_is_small_word
    have D23 := ok_is_target (P := P) (w := w) (base := base) T f_s_is_target
    have D22 := ok_is_item T f_s_is_item D9 D23
    have D20 := ok_need_names T f_s_need_names D9
    have D21 := ok_need_targets T f_s_need_targets D22 D23
    have D25 := ok_meet (P := P) (w := w) (base := base) T f_s_meet
    have D24 := ok_met_points T f_s_met_points D25
    have D26 := ok_new_numbers (P := P) (w := w) (base := base) T f_s_new_numbers
    have D27 := ok_renumbered (P := P) (w := w) (base := base) T f_s_renumbered
    have D29 := ok_shown_target (P := P) (w := w) (base := base) T f_s_shown_target
    have D28 := ok_shown_words T f_s_shown_words D29
    have D31 := ok_cell (P := P) (w := w) (base := base) T f_s_cell
    have D32 := ok_digits T f_s_digits D31
    have D33 := ok_same (P := P) (w := w) (base := base) T ⟨bAtD m 6, bAtD m 7⟩ f_s_same
    have D34 := ok_names T f_s_names D32
    have D35 := ok_met (P := P) (w := w) (base := base) T f_s_met
    have D36 := ok_canon T f_s_canon D35
    have D37 := ok_spots (P := P) (w := w) (base := base) T f_s_spots
    have D39 := ok_mark (P := P) (w := w) (base := base) T f_s_mark
    have D40 := ok_text T f_s_text D39
    have D41 := ok_raw T f_s_raw D32 D34 D36
    have D42 := ok_turned (P := P) (w := w) (base := base) T f_s_turned
    have oi := ok_init (C := He.ga K "Web") Fi T TC D20 D21 D24 D26 D27
    have Mi := He.mkr_ok (c.fact 32)
    have D38 := ok_made T mgC Mi oi b1 f_s_made
    have WT : WTx P w K mg base (He.ga K "Web") := ⟨TC, TE, ⟨bAt m 8, bAt m 9, bAt m 10⟩, ⟨_, _, e2, _, _, Mi, oi, b1, b2, v2, fun G => ⟨tup0B_ok (bAt m 13) G, tup0B_ok (bAt m 14) G⟩⟩, ⟨_, fd_s_repr, ok_repr F_s_repr T TC D28, a_s_repr, i_s_repr, b_s_repr⟩, ⟨_, fd_s_len, ok_len F_s_len T TC, a_s_len, i_s_len, b_s_len⟩, ⟨_, fd_s_eq, ok_eq F_s_eq T TC TE, a_s_eq, i_s_eq, b_s_eq, neh⟩, ⟨_, fd_s_heap, ok_heap F_s_heap T TC, ⟨a_s_heap, i_s_heap, k_s_heap⟩, b_s_heap⟩⟩
    exact ok_law T WT g1 D32 D41 D37 D36 D38 D42 D40 D33
end
end K3
set_option Elab.async false
set_option linter.all false
set_option maxRecDepth 100000
set_option maxHeartbeats 0
namespace K3
open PySem L2 OB
abbrev R : PySem.W.OpenRow := PySem.W.OpenLaw.row PySem.Challenge.rw_osier_k03_webs_alike_and_as_text
abbrev hk : PySem.W.Hook := He.hookX 5 fa fn [] [] ex
def ob (s : PySem.W.SharedT) : He.AlX := He.obsX 5 fa fn [] [] ex (HandSHeadRun.getT s)
theorem ob_eq (s : PySem.W.SharedT) : ob s = hk.obs s.abs := He.obsX_eq (HandSHeadRun.getT_eq s)
def names0 : List PySem.Str := ["_wall", "OsierError", "BadName", "BadWeb", "Missing", "NoName", "SMALL_LETTERS", "is_small_word", "CELL", "CELL_TARGETS", "MOST_TARGETS", "MOST_NAMES", "MOST_POINTS", "NOTHING", "GONE", "EMPTY", "Web", "need_names", "need_targets", "is_item", "is_target", "met_points", "meet", "new_numbers", "renumbered", "shown_words", "shown_target", "_law_cell", "_law_digits", "_law_same"]
def names1 : List PySem.Str := ["_law_names", "_law_met", "_law_canon", "_law_spots", "_law_made", "_law_mark", "_law_text", "_law_raw", "_law_turned"]
def names : List PySem.Str := names0 ++ names1
theorem headrun (w : World) : HandSHeadRun.RunEq R (PySem.W.view R.prog [43]) hk ob 4000 names w := by
  intro os
  kernel_rfl
end K3
open PySem PySem.W PySem.Calls PyProof.Rows
theorem PySem.Challenge.cw_osier_k03_webs_alike_and_as_text_holds : PySem.Challenge.rw_osier_k03_webs_alike_and_as_text.Holds := by
  w_on; o_law
  refine HandSHeadRun.head_any (r := OpenLaw.row PySem.Challenge.rw_osier_k03_webs_alike_and_as_text) (q := view (OpenLaw.row PySem.Challenge.rw_osier_k03_webs_alike_and_as_text).prog [43]) (H := K3.hk) (ob := K3.ob) (M := 4000) (loose := K3.names) (d := HandSHeadRun.topDef (OpenLaw.row PySem.Challenge.rw_osier_k03_webs_alike_and_as_text).prog 43) (kwd := []) K3.ob_eq
    (by kernel_rfl) (fun s => by kernel_rfl) K3.headrun (by kernel_rfl) (by kernel_rfl) (by kernel_rfl) (by rfl) (by first | assumption | decide +kernel) (by decide +kernel) ⟨rfl, rfl, rfl, rfl, rfl, by decide +kernel⟩ ?hw ?hc
  case hw => w_witness2
  case hc =>
    refine OB.walkGE (l := PySem.Challenge.rw_osier_k03_webs_alike_and_as_text) (m := 63) (k := 9) (x := "_law_script") rfl (by decide) (by kernel_rfl) ⟨rfl, by decide, by decide⟩ ?F
    intro w mg f1 h Y G hmg0
    obtain ⟨K, KX, c⟩ := Y
    have hmg : mg ("law" : PySem.Str) = some (.ref f1) := by
      have e : (HandSHeadRun.topDef (OpenLaw.row PySem.Challenge.rw_osier_k03_webs_alike_and_as_text).prog 43).name = ("law" : PySem.Str) := by kernel_rfl
      rw [← e]
      exact hmg0
    obtain ⟨fd, hb, hF⟩ := K3.all_mk (P := (PySem.Challenge.rw_osier_k03_webs_alike_and_as_text).prog) (w := w) KX G hmg c.t.d c.more
    refine ⟨K, fd, K3.sp_law K, KX, hb, fun H a ns hl hS => ?_, hF⟩
    exact ⟨ns, H, L2.Same.refl H, ⟨.lst hS (OB.dpa_ints ns), trivial⟩, trivial, fun v G' H' _ r => OB.dp_bl r⟩
