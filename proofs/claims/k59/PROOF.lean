import PyProof.Rows.All
import Wide.All
import OpenK.AllK
import Wide.FinOn
import HandS.ForMost
import HandS.ForExc
import HandS.Style
import HandS.Property
import HandS.IsInst
import HandS.Wide
import HandS.ExcIs
import HandS.Star
import HandS.Deep
import HandS.TupAny
import KE.DataCmp
import KE.DatumOrd
import HandS.TupSets
import HandS.Zip
import HandS.Walk
import KE.KExcSuper
import KE.KExcIs
import HandS.ExcInit
import HandS.ExcField
import HandS.FStr
import HandS.TryOnly
import HandS.Conv
import HandS.Dict
import HandS.ExcValue
import HandS.Codes
import HandS.Replace
import HandS.StrMore
import PySem.Challenge.RW_sumslips_k59_strings_that_are_no_slips
set_option Elab.async false
set_option linter.all false
set_option maxRecDepth 100000
namespace SX
open PySem PySem.Spec L2
def Ex (H H' : Hp) : Prop := ∀ a o, H a = some o → H' a = some o
theorem Ex.refl (H : Hp) : Ex H H := fun _ _ h => h
theorem Ex.trans {H H1 H2 : Hp} (a : Ex H H1) (b : Ex H1 H2) : Ex H H2 := fun x o h => b x o (a x o h)
theorem Ex.new {H : Hp} {p : Addr} {o : HO} (h : H p = none) : Ex H (upd H p o) := fun a u e => by
  rw [upd_ne (ne_of_none e h)]
  exact e
abbrev Mem := List (Addr × HO)
structure Me (G : Hp) (M : Mem) (H : Hp) : Prop where
  ex : Ex G H
  at_ : ∀ p ∈ M, H p.1 = some p.2 ∧ G p.1 = none
  nd : (M.map (·.1)).Nodup
section
variable {G G' H : Hp} {M M' F : Mem} {p q : Addr} {o o' : HO} {i : Nat}
theorem Me.get (m : Me G M H) (h : M[i]? = some (p, o)) : H p = some o := (m.at_ _ (List.mem_of_getElem? h)).1
theorem get_app (h : M[i]? = some (p, o)) : (M ++ F)[i]? = some (p, o) := by
  rw [List.getElem?_append_left (List.getElem?_eq_some_iff.mp h).1]
  exact h
theorem Me.getF (m : Me G (M ++ F) H) (h : M[i]? = some (p, o)) : H p = some o := m.get (get_app h)
theorem Me.free (m : Me G M H) (h : H p = none) : G p = none := by
  cases e : G p with
  | none => rfl
  | some u =>
    rw [m.ex p u e] at h
    cases h
theorem Me.notin (m : Me G M H) (h : H p = none) : p ∉ M.map (·.1) := fun z => by
  obtain ⟨x, hx, e⟩ := List.mem_map.mp z
  have := (m.at_ x hx).1
  rw [e, h] at this
  cases this
theorem Me.new (m : Me G M H) (h : H p = none) : Me G M (upd H p o) :=
  ⟨m.ex.trans (Ex.new h), fun x hx => ⟨by rw [upd_ne (ne_of_none (m.at_ x hx).1 h)]; exact (m.at_ x hx).1, (m.at_ x hx).2⟩, m.nd⟩
theorem Me.newF (m : Me G M H) (h : H p = none) : Me (upd G p o) M (upd H p o) :=
  ⟨fun a u e => by
    by_cases ha : a = p
    · subst ha
      rw [upd_same] at e ⊢
      exact e
    · rw [upd_ne ha] at e ⊢
      exact m.ex a u e, fun x hx => by
    have hne : x.1 ≠ p := ne_of_none (m.at_ x hx).1 h
    rw [upd_ne hne, upd_ne hne]
    exact m.at_ x hx, m.nd⟩
theorem Me.sub (m : Me G M H) (h : M'.Sublist M) : Me G M' H := ⟨m.ex, fun x hx => m.at_ x (h.subset hx), (m.nd.sublist (h.map _))⟩
theorem Me.perm (m : Me G M H) (h : M'.Perm M) : Me G M' H := ⟨m.ex, fun x hx => m.at_ x (h.mem_iff.mp hx), (h.map _).nodup_iff.mpr m.nd⟩
theorem Me.newM (m : Me G M H) (h : H p = none) : Me G ((p, o) :: M) (upd H p o) :=
  ⟨(m.new h).ex, fun x hx => by
    rcases List.mem_cons.mp hx with rfl | hx
    · exact ⟨upd_same, m.free h⟩
    · exact (m.new h).at_ x hx, List.nodup_cons.mpr ⟨m.notin h, m.nd⟩⟩
theorem Me.newMid (m : Me G (M ++ F) H) (h : H p = none) : Me G ((M ++ [(p, o)]) ++ F) (upd H p o) :=
  (m.newM h).perm (by rw [List.append_assoc]; exact List.perm_middle)
theorem Me.put (m : Me G M H) (h : M[i]? = some (p, o)) : Me G (M.set i (p, o')) (upd H p o') := by
  obtain ⟨hi, e⟩ := List.getElem?_eq_some_iff.mp h
  have hk : (M.set i (p, o')).map (·.1) = M.map (·.1) := by
    rw [List.map_set]
    apply List.ext_getElem?
    intro j
    rw [List.getElem?_set]
    split
    · rename_i hj
      subst hj
      rw [if_pos (by rw [List.length_map]; exact hi), List.getElem?_map, h]
      rfl
    · rfl
  have gp : G p = none := (m.at_ _ (List.mem_of_getElem? h)).2
  refine ⟨fun a u ea => ?_, fun x hx => ?_, by rw [hk]; exact m.nd⟩
  · rw [upd_ne (ne_of_none ea gp)]
    exact m.ex a u ea
  · obtain ⟨j, hj, ej⟩ := List.mem_iff_getElem.mp hx
    rw [List.length_set] at hj
    rw [List.getElem_set] at ej
    by_cases hij : i = j
    · rw [if_pos hij] at ej
      subst ej
      exact ⟨upd_same, gp⟩
    · rw [if_neg hij] at ej
      subst ej
      have hne : M[j].1 ≠ p := fun z => by
        have n := m.nd
        rw [List.nodup_iff_pairwise_ne] at n
        have := List.pairwise_iff_getElem.mp n
        rcases Nat.lt_or_gt_of_ne hij with l | l
        · have q := this i j (by rw [List.length_map]; exact hi) (by rw [List.length_map]; exact hj) l
          rw [List.getElem_map, List.getElem_map, e] at q
          exact q z.symm
        · have q := this j i (by rw [List.length_map]; exact hj) (by rw [List.length_map]; exact hi) l
          rw [List.getElem_map, List.getElem_map, e] at q
          exact q z
      rw [upd_ne hne]
      exact m.at_ _ (List.getElem_mem hj)
theorem set_app {x : Addr × HO} (h : i < M.length) : (M ++ F).set i x = M.set i x ++ F := by
  rw [List.set_append, if_pos h]
theorem Me.putF (m : Me G (M ++ F) H) (h : M[i]? = some (p, o)) : Me G (M.set i (p, o') ++ F) (upd H p o') := by
  rw [← set_app (List.getElem?_eq_some_iff.mp h).1]
  exact m.put (get_app h)
/-- what is owned is frozen -/
theorem Me.freeze (m : Me G ((p, o) :: M) H) : Me (upd G p o) M H ∧ Ex G (upd G p o) := by
  have gp := (m.at_ _ (List.mem_cons_self)).2
  have hp := (m.at_ _ (List.mem_cons_self)).1
  have nd := List.nodup_cons.mp m.nd
  refine ⟨⟨fun a u e => ?_, fun x hx => ?_, nd.2⟩, Ex.new gp⟩
  · by_cases ha : a = p
    · subst ha
      rw [upd_same] at e
      cases e
      exact hp
    · rw [upd_ne ha] at e
      exact m.ex a u e
  · refine ⟨(m.at_ x (List.mem_cons_of_mem _ hx)).1, ?_⟩
    have hne : x.1 ≠ p := fun z => nd.1 (List.mem_map.mpr ⟨x, hx, z⟩)
    rw [upd_ne hne]
    exact (m.at_ x (List.mem_cons_of_mem _ hx)).2
theorem Me.freezeMid (m : Me G (M ++ (p, o) :: F) H) : Me (upd G p o) (M ++ F) H ∧ Ex G (upd G p o) := (m.perm List.perm_middle.symm).freeze
theorem Me.freezeLast (m : Me G ((M ++ [(p, o)]) ++ F) H) : Me (upd G p o) (M ++ F) H ∧ Ex G (upd G p o) := by
  rw [List.append_assoc] at m
  exact m.freezeMid
end
section
variable {K : PySem.W.Frag} {G G' H : Hp}
theorem ex_rd {a : Addr} {u : HO} (e : Ex G G') (h : Rd G a u) : Rd G' a u := by
  rcases h with h | ⟨o, h⟩
  · exact .inl (e a _ h)
  · exact .inr ⟨o, e a _ h⟩
theorem ex_l {a : Addr} {xs : List V} (e : Ex G G') (h : SqL K G a xs) : SqL K G' a xs := by
  rcases h with h | h
  · exact .inl (ex_rd e h)
  · exact .inr h
theorem ex_t {a : Addr} {xs : List V} (e : Ex G G') (h : SqT K G a xs) : SqT K G' a xs := by
  rcases h with h | h
  · exact .inl (ex_rd e h)
  · exact .inr h
mutual
theorem Dp.ex (e : Ex G G') : ∀ (d : PyData) (v : V), Dp K G v d → Dp K G' v d
  | .none, _, h => by cases h; exact .non
  | .bool b, _, h => by cases h; exact .bl b
  | .int i, _, h => by cases h; exact .int i
  | .str x, _, h => by cases h; exact .str x
  | .list ds, _, h => by
    cases h with
    | lst hs ha => exact .lst (ex_l e hs) (DpAll.ex e ds _ ha)
  | .tuple ds, _, h => by
    cases h with
    | tup hs ha => exact .tup (ex_t e hs) (DpAll.ex e ds _ ha)
  | .dict _, _, h => by cases h
theorem DpAll.ex (e : Ex G G') : ∀ (ds : List PyData) (vs : List V), DpAll K G vs ds → DpAll K G' vs ds
  | [], _, h => by cases h; exact .nil
  | d :: ds, _, h => by
    cases h with
    | cons h1 h2 => exact .cons (Dp.ex e d _ h1) (DpAll.ex e ds _ h2)
end
theorem dm {v : V} {d : PyData} (h : Dp K G v d) (e : Ex G G') : Dp K G' v d := Dp.ex e d v h
theorem dma {vs : List V} {ds : List PyData} (h : DpAll K G vs ds) (e : Ex G G') : DpAll K G' vs ds := DpAll.ex e ds vs h
theorem dpa_len : ∀ {vs : List V} {ds : List PyData}, DpAll K G vs ds → vs.length = ds.length
  | _, [], h => by cases h; rfl
  | _, d :: ds, h => by
    cases h with
    | cons _ h2 => simp [dpa_len h2]
theorem dpa_at : ∀ {vs : List V} {ds : List PyData} {i : Nat} {d : PyData}, DpAll K G vs ds → ds[i]? = some d → ∃ v, vs[i]? = some v ∧ Dp K G v d
  | _, [], _, _, _, e => by simp at e
  | _, d :: ds, 0, _, h, e => by
    cases h with
    | cons h1 _ => exact ⟨_, rfl, by have := Option.some.inj e; rw [← this]; exact h1⟩
  | _, d :: ds, i + 1, _, h, e => by
    cases h with
    | cons _ h2 => exact dpa_at (i := i) h2 e
theorem dpa_atV : ∀ {vs : List V} {ds : List PyData} {i : Nat} {v : V}, DpAll K G vs ds → vs[i]? = some v → ∃ d, ds[i]? = some d ∧ Dp K G v d
  | _, [], _, _, h, e => by cases h; simp at e
  | _, d :: ds, 0, _, h, e => by
    cases h with
    | cons h1 _ => exact ⟨_, rfl, by have := Option.some.inj e; rw [← this]; exact h1⟩
  | _, d :: ds, i + 1, _, h, e => by
    cases h with
    | cons _ h2 => exact dpa_atV (i := i) h2 e
theorem dpa_app : ∀ {vs ws : List V} {ds es : List PyData}, DpAll K G vs ds → DpAll K G ws es → DpAll K G (vs ++ ws) (ds ++ es)
  | _, _, [], _, h, h' => by cases h; exact h'
  | _, _, d :: ds, _, h, h' => by
    cases h with
    | cons h1 h2 => exact .cons h1 (dpa_app h2 h')
theorem dp_int {v : V} {n : Int} (h : Dp K G v (.int n)) : v = .int n := by cases h; rfl
theorem dp_bl {v : V} {n : Bool} (h : Dp K G v (.bool n)) : v = .bl n := by cases h; rfl
theorem dp_str {v : V} {n : Str} (h : Dp K G v (.str n)) : v = .str n := by cases h; rfl
theorem dp_non {v : V} (h : Dp K G v .none) : v = .non := by cases h; rfl
theorem dp_tup {v : V} {ds : List PyData} (h : Dp K G v (.tuple ds)) : ∃ a xs, v = .ref a ∧ SqT K G a xs ∧ DpAll K G xs ds := by
  cases h with
  | tup a b => exact ⟨_, _, rfl, a, b⟩
theorem dp_lst {v : V} {ds : List PyData} (h : Dp K G v (.list ds)) : ∃ a xs, v = .ref a ∧ SqL K G a xs ∧ DpAll K G xs ds := by
  cases h with
  | lst a b => exact ⟨_, _, rfl, a, b⟩
theorem dpAll_ints : ∀ {vs : List V} {ns : List Int}, DpAll K G vs (ns.map .int) → vs = ns.map V.int
  | _, [], h => by cases h; rfl
  | _, n :: ns, h => by
    cases h with
    | cons h1 h2 => rw [dp_int h1, dpAll_ints h2]; rfl
theorem ints_dpAll : ∀ (ns : List Int), DpAll K G (ns.map V.int) (ns.map .int)
  | [] => .nil
  | n :: ns => .cons (.int n) (ints_dpAll ns)
theorem dpAll_bls : ∀ {vs : List V} {ns : List Bool}, DpAll K G vs (ns.map .bool) → vs = ns.map V.bl
  | _, [], h => by cases h; rfl
  | _, n :: ns, h => by
    cases h with
    | cons h1 h2 => rw [dp_bl h1, dpAll_bls h2]; rfl
end
end SX
set_option Elab.async false
set_option linter.all false
set_option maxRecDepth 100000
namespace SX
open PySem PySem.Spec L2
abbrev Post := Hp → V → Mem → Prop
abbrev isP (P : Hp → V → Prop) (M : Mem) : Post := fun G v M' => P G v ∧ M' = M
abbrev isV (x : V) (M : Mem) : Post := isP (fun _ v => v = x) M
abbrev isD (K : PySem.W.Frag) (d : PyData) (M : Mem) : Post := isP (fun G v => Dp K G v d) M
def Ev (te : TE) (σ : St) (G : Hp) (M : Mem) (R : Post) : Prop := ∀ G1 H F, Ex G G1 → Me G1 (M ++ F) H → ∀ Q : VK, (∀ v G2 M2 H2, Ex G1 G2 → Me G2 (M2 ++ F) H2 → R G2 v M2 → Q v H2) → te σ H Q
def EvT (tt : TT) (σ : St) (G : Hp) (M : Mem) (b : Bool) (M' : Mem) : Prop := ∀ G1 H F, Ex G G1 → Me G1 (M ++ F) H → ∀ Q : Bool → Hp → Prop, (∀ G2 H2, Ex G1 G2 → Me G2 (M' ++ F) H2 → Q b H2) → tt σ H Q
def AllP (G : Hp) : List (Hp → V → Prop) → List V → Prop
  | [], [] => True
  | P :: Ps, v :: vs => P G v ∧ AllP G Ps vs
  | _, _ => False
def EvA (ta : TA) (σ : St) (G : Hp) (M : Mem) (Ps : List (Hp → V → Prop)) (M' : Mem) : Prop := ∀ G1 H F, Ex G G1 → Me G1 (M ++ F) H → ∀ Q : List V → Hp → Prop, (∀ vs G2 H2, Ex G1 G2 → Me G2 (M' ++ F) H2 → AllP G2 Ps vs → Q vs H2) → ta σ H Q
class Mono (P : Hp → V → Prop) : Prop where
  mono : ∀ G G' v, Ex G G' → P G v → P G' v
instance {x : V} : Mono (fun _ v => v = x) := ⟨fun _ _ _ _ h => h⟩
instance {K : PySem.W.Frag} {d : PyData} : Mono (fun G v => Dp K G v d) := ⟨fun _ _ _ e h => dm h e⟩
/-- what stands at an address, whoever owns it -/
def At (G : Hp) (M : Mem) (a : Addr) (o : HO) : Prop := ∀ G1 H F, Ex G G1 → Me G1 (M ++ F) H → H a = some o
theorem At.G {G : Hp} {M : Mem} {a : Addr} {o : HO} (h : G a = some o) : At G M a o := fun _ _ _ e m => m.ex _ _ (e _ _ h)
theorem At.M {G : Hp} {M : Mem} {a : Addr} {o : HO} {i : Nat} (h : M[i]? = some (a, o)) : At G M a o := fun _ _ _ _ m => m.getF h
theorem At.ex {G G' : Hp} {M : Mem} {a : Addr} {o : HO} (h : At G M a o) (e : Ex G G') : At G' M a o := fun G1 H F e1 m => h G1 H F (e.trans e1) m
def AtL (K : PySem.W.Frag) (G : Hp) (M : Mem) (a : Addr) (xs : List V) : Prop := ∀ G1 H F, Ex G G1 → Me G1 (M ++ F) H → SqL K H a xs
def AtT (K : PySem.W.Frag) (G : Hp) (M : Mem) (a : Addr) (xs : List V) : Prop := ∀ G1 H F, Ex G G1 → Me G1 (M ++ F) H → SqT K H a xs
theorem AtL.of {K : PySem.W.Frag} {G : Hp} {M : Mem} {a : Addr} {xs : List V} (h : At G M a (.lst xs)) : AtL K G M a xs := fun _ _ _ e m => SqL.of (h _ _ _ e m)
theorem AtL.M {K : PySem.W.Frag} {G : Hp} {M : Mem} {a : Addr} {xs : List V} {i : Nat} (h : M[i]? = some (a, .lst xs)) : AtL K G M a xs := .of (.M h)
theorem AtL.G {K : PySem.W.Frag} {G : Hp} {M : Mem} {a : Addr} {xs : List V} (h : SqL K G a xs) : AtL K G M a xs := fun _ _ _ e m => ex_l m.ex (ex_l e h)
theorem AtT.G {K : PySem.W.Frag} {G : Hp} {M : Mem} {a : Addr} {xs : List V} (h : SqT K G a xs) : AtT K G M a xs := fun _ _ _ e m => ex_t m.ex (ex_t e h)
theorem AtL.ex {K : PySem.W.Frag} {G G' : Hp} {M : Mem} {a : Addr} {xs : List V} (h : AtL K G M a xs) (e : Ex G G') : AtL K G' M a xs := fun G1 H F e1 m => h G1 H F (e.trans e1) m
section
variable {K : PySem.W.Frag} {σ : St} {G G' H : Hp} {M M1 M2 M3 F : Mem} {R : Post} {ta tb tc te : TE} {tt tu : TT} {x y z : V} {d e : PyData} {a b c : Bool} {i j : Int} {P P1 P2 : Hp → V → Prop} {Ps : List (Hp → V → Prop)}
theorem Ev.mono (h : Ev te σ G M R) (e : Ex G G') : Ev te σ G' M R := fun G1 H F e1 m Q q => h G1 H F (e.trans e1) m Q q
theorem EvT.mono (h : EvT tt σ G M a M1) (e : Ex G G') : EvT tt σ G' M a M1 := fun G1 H F e1 m Q q => h G1 H F (e.trans e1) m Q q
theorem Ev.imp {R' : Post} (h : Ev te σ G M R) (f : ∀ G1 v M1, Ex G G1 → R G1 v M1 → R' G1 v M1) : Ev te σ G M R' := fun G1 H F e m Q q => h G1 H F e m Q fun v G2 M2 H2 e2 m2 r => q v G2 M2 H2 e2 m2 (f _ _ _ (e.trans e2) r)
theorem Ev.impP (h : Ev te σ G M (isP P M1)) (f : ∀ G1 v, Ex G G1 → P G1 v → P1 G1 v) : Ev te σ G M (isP P1 M1) := h.imp fun G1 v M2 e r => ⟨f _ _ e r.1, r.2⟩
theorem ev_var {k : Nat} (h : σ[k]? = some (some x)) : Ev (tVar k) σ G M (isV x M) := fun _ _ _ _ m _ q => ⟨x, h, q x _ _ _ (Ex.refl _) m ⟨rfl, rfl⟩⟩
theorem ev_varP {k : Nat} [Mono P] (h : σ[k]? = some (some x)) (hp : P G x) : Ev (tVar k) σ G M (isP P M) := fun _ _ _ e m _ q => ⟨x, h, q x _ _ _ (Ex.refl _) m ⟨Mono.mono _ _ _ e hp, rfl⟩⟩
theorem ev_c : Ev (tC x) σ G M (isV x M) := fun _ _ _ _ m _ q => q x _ _ _ (Ex.refl _) m ⟨rfl, rfl⟩
theorem Ev.toD (h : Ev te σ G M (isV x M1)) (hd : ∀ G, Dp K G x d) : Ev te σ G M (isD K d M1) := h.impP fun G1 v _ e => by
  rw [e]
  exact hd G1
theorem ev_iD (h : Ev te σ G M (isV (.int i) M1)) : Ev te σ G M (isD K (.int i) M1) := h.toD fun _ => .int i
/-- one value, then another, then an operation on both -/
theorem ev_op {r : R2} [Mono P1] (h1 : Ev ta σ G M (isP P1 M1)) (h2 : Ev tb σ G M1 (isP P2 M2))
    (hr : ∀ G1 H F x y, Ex G G1 → Me G1 (M2 ++ F) H → P1 G1 x → P2 G1 y → ∀ Q : VK, (∀ v G2 M3 H2, Ex G1 G2 → Me G2 (M3 ++ F) H2 → R G2 v M3 → Q v H2) → r x y H Q) : Ev (tOp r ta tb) σ G M R := fun G1 H F e m Q q =>
  h1 G1 H F e m _ fun x G2 M2' H2 e2 m2 r1 => by
    obtain ⟨p1, rfl⟩ := r1
    refine h2 G2 H2 F (e.trans e2) m2 _ fun y G3 M3' H3 e3 m3 r2 => ?_
    obtain ⟨p2, rfl⟩ := r2
    exact hr G3 H3 F x y ((e.trans e2).trans e3) m3 (Mono.mono _ _ _ e3 p1) p2 Q fun v G4 M4 H4 e4 m4 r4 => q v G4 M4 H4 ((e2.trans e3).trans e4) m4 r4
/-- an operation of two values that leaves the heap -/
theorem ev_opV {r : R2} (h1 : Ev ta σ G M (isV x M1)) (h2 : Ev tb σ G M1 (isV y M2)) (hr : ∀ H (Q : VK), Q z H → r x y H Q) : Ev (tOp r ta tb) σ G M (isV z M2) :=
  ev_op h1 h2 fun G1 H F x' y' e m p1 p2 Q q => by
    subst p1 p2
    exact hr H Q (q z G1 _ H (Ex.refl _) m ⟨rfl, rfl⟩)
theorem ev_I0 {g : Int → Int → V} (h1 : Ev ta σ G M (isV (.int i) M1)) (h2 : Ev tb σ G M1 (isV (.int j) M2)) : Ev (tOp (rI0 g) ta tb) σ G M (isV (g i j) M2) := ev_opV h1 h2 fun H Q q => ⟨i, j, rfl, rfl, q⟩
theorem ev_I {C : Int → Int → Prop} {g : Int → Int → V} (h1 : Ev ta σ G M (isV (.int i) M1)) (h2 : Ev tb σ G M1 (isV (.int j) M2)) (hc : C i j) : Ev (tOp (rI C g) ta tb) σ G M (isV (g i j) M2) := ev_opV h1 h2 fun H Q q => ⟨i, j, rfl, rfl, hc, q⟩
theorem ev_eqD (h1 : Ev ta σ G M (isD K d M1)) (h2 : Ev tb σ G M1 (isD K e M2)) (s1 : SeqAt.shaped d = true) (s2 : SeqAt.shaped e = true) : Ev (tOp (rEqD K) ta tb) σ G M (isV (.bl (PyData.eqv d e)) M2) :=
  ev_op h1 h2 fun G1 H F x' y' ex m p1 p2 Q q => ⟨d, e, dm p1 m.ex, dm p2 m.ex, s1, s2, q _ G1 _ H (Ex.refl _) m ⟨rfl, rfl⟩⟩
theorem et_test (h : Ev te σ G M (isV (.bl a) M1)) : EvT (tTest te) σ G M a M1 := fun G1 H F e m Q q => h G1 H F e m _ fun v G2 M2 H2 e2 m2 r => by
  obtain ⟨rfl, rfl⟩ := r
  exact ⟨a, rfl, q G2 H2 e2 m2⟩
theorem ea_nil : EvA tNil σ G M [] M := fun _ _ _ _ m _ q => q [] _ _ (Ex.refl _) m trivial
theorem ea_cons {tr : TA} [Mono P] (h1 : Ev ta σ G M (isP P M1)) (h2 : EvA tr σ G M1 Ps M2) : EvA (tCons ta tr) σ G M (P :: Ps) M2 := fun G1 H F e m Q q =>
  h1 G1 H F e m _ fun v G2 M2' H2 e2 m2 r => by
    obtain ⟨p, rfl⟩ := r
    exact h2 G2 H2 F (e.trans e2) m2 _ fun vs G3 H3 e3 m3 a => q (v :: vs) G3 H3 (e2.trans e3) m3 ⟨Mono.mono _ _ _ e3 p, a⟩
/-- data from arguments -/
theorem allD : ∀ {ds : List PyData} {vs : List V}, AllP G (ds.map fun d => fun G v => Dp K G v d) vs → DpAll K G vs ds
  | [], [], _ => .nil
  | [], _ :: _, h => h.elim
  | _ :: _, [], h => h.elim
  | _ :: _, _ :: _, h => .cons h.1 (allD h.2)
theorem ev_ixL {p : Addr} {xs : List V} (h1 : Ev ta σ G M (isV (.ref p) M1)) (h2 : Ev tb σ G M1 (isV (.int i) M2)) (hL : AtL K G M2 p xs) (hx : atI xs i = some x) : Ev (tOp (rIxL K) ta tb) σ G M (isV x M2) :=
  ev_op h1 h2 fun G1 H F x' y' e m p1 p2 Q q => by
    subst p1 p2
    exact ⟨p, xs, i, x, rfl, rfl, hL G1 H F e m, hx, q _ _ _ _ (Ex.refl _) m ⟨rfl, rfl⟩⟩
/-- a promise over the symbolic heap -/
def spec {α : Type} (pre : α → Hp → Mem → List V → Prop) (post : α → Mem → Post) : Sp := fun vs H Q _ => ∃ x G M F, Me G (M ++ F) H ∧ pre x G M vs ∧ ∀ v G' M' H', Ex G G' → Me G' (M' ++ F) H' → post x M G' v M' → Q v H'
/-- a built-in by its values -/
theorem ev_CB {r : List V → Hp → VK → Prop} {t : TA} (h : EvA t σ G M Ps M1)
    (hr : ∀ G1 H F vs, Ex G G1 → Me G1 (M1 ++ F) H → AllP G1 Ps vs → ∀ Q : VK, (∀ v G2 M3 H2, Ex G1 G2 → Me G2 (M3 ++ F) H2 → R G2 v M3 → Q v H2) → r vs H Q) : Ev (tCB r t) σ G M R := fun G1 H F e m Q q =>
  h G1 H F e m _ fun vs G2 H2 e2 m2 a => hr G2 H2 F vs (e.trans e2) m2 a Q fun v G3 M3 H3 e3 m3 r3 => q v G3 M3 H3 (e2.trans e3) m3 r3
end
end SX
set_option Elab.async false
set_option linter.all false
set_option maxRecDepth 100000
namespace SX
open PySem PySem.Spec L2
/-- what is wanted: behind the statement, of a return, a break, a continue, an error -/
structure Po where
  nx : Hp → L2.St → Mem → Prop
  rt : Post
  bk : Hp → L2.St → Mem → Prop := fun _ _ _ => False
  ct : Hp → L2.St → Mem → Prop := fun _ _ _ => False
  ex : Value → Option Addr → Hp → Mem → Prop := fun _ _ _ _ => False
structure Has (E : XK) (D : Ends) (P : Po) (G1 : Hp) (F : Mem) : Prop where
  nx : ∀ σ2 G2 M2 H2, Ex G1 G2 → Me G2 (M2 ++ F) H2 → P.nx G2 σ2 M2 → D.nx σ2 H2
  rt : ∀ v G2 M2 H2, Ex G1 G2 → Me G2 (M2 ++ F) H2 → P.rt G2 v M2 → D.rt v H2
  bk : ∀ σ2 G2 M2 H2, Ex G1 G2 → Me G2 (M2 ++ F) H2 → P.bk G2 σ2 M2 → D.bk σ2 H2
  ct : ∀ σ2 G2 M2 H2, Ex G1 G2 → Me G2 (M2 ++ F) H2 → P.ct G2 σ2 M2 → D.ct σ2 H2
  ex : ∀ cls d G2 M2 H2, Ex G1 G2 → Me G2 (M2 ++ F) H2 → P.ex cls d G2 M2 → E cls d H2
def Sv (E : XK) (t : TS) (σ : L2.St) (G : Hp) (M : Mem) (P : Po) : Prop := ∀ G1 H F (D : Ends), Ex G G1 → Me G1 (M ++ F) H → Has E D P G1 F → t D σ H
theorem Has.up {E : XK} {D : Ends} {P : Po} {G1 G2 : Hp} {F : Mem} (h : Has E D P G1 F) (e : Ex G1 G2) : Has E D P G2 F :=
  ⟨fun a b c d e1 => h.nx a b c d (e.trans e1), fun a b c d e1 => h.rt a b c d (e.trans e1), fun a b c d e1 => h.bk a b c d (e.trans e1), fun a b c d e1 => h.ct a b c d (e.trans e1), fun a b c d f e1 => h.ex a b c d f (e.trans e1)⟩
section
variable {E : XK} {K : PySem.W.Frag} {σ : L2.St} {G G' H : Hp} {M M1 M2 M3 F : Mem} {R : Post} {P P' : Po} {te ta : TE} {tt : TT} {t u : TS} {x y z : V} {d : PyData} {a b : Bool} {i : Nat}
theorem Sv.mono (h : Sv E t σ G M P) (e : Ex G G') : Sv E t σ G' M P := fun G1 H F D e1 m hd => h G1 H F D (e.trans e1) m hd
theorem sv_set (h : Ev te σ G M R) (k : ∀ v G' M', Ex G G' → R G' v M' → P.nx G' (σ.set i (some v)) M') : Sv E (tAsg te (gName i)) σ G M P := fun G1 H F D e m hd =>
  h G1 H F e m _ fun v G2 M2 H2 e2 m2 r => hd.nx _ G2 M2 H2 e2 m2 (k v G2 M2 (e.trans e2) r)
theorem sv_drop (h : Ev te σ G M R) (k : ∀ v G' M', Ex G G' → R G' v M' → P.nx G' σ M') : Sv E (tDrop te) σ G M P := fun G1 H F D e m hd =>
  h G1 H F e m _ fun v G2 M2 H2 e2 m2 r => hd.nx _ G2 M2 H2 e2 m2 (k v G2 M2 (e.trans e2) r)
theorem sv_ret (h : Ev te σ G M R) (k : ∀ v G' M', Ex G G' → R G' v M' → P.rt G' v M') : Sv E (tRet te) σ G M P := fun G1 H F D e m hd =>
  h G1 H F e m _ fun v G2 M2 H2 e2 m2 r => hd.rt _ G2 M2 H2 e2 m2 (k v G2 M2 (e.trans e2) r)
theorem sv_next (k : ∀ G', Ex G G' → P.nx G' σ M) : Sv E tNext σ G M P := fun G1 H F D e m hd => hd.nx σ G1 M H (Ex.refl _) m (k G1 e)
theorem sv_seq (h : Sv E t σ G M { P with nx := N }) (k : ∀ G' σ' M', Ex G G' → N G' σ' M' → Sv E u σ' G' M' P) : Sv E (tSeq t u) σ G M P := fun G1 H F D e m hd =>
  h G1 H F _ e m ⟨fun σ2 G2 M2 H2 e2 m2 n => k G2 σ2 M2 (e.trans e2) n G2 H2 F D (Ex.refl _) m2 (hd.up e2), hd.rt, hd.bk, hd.ct, hd.ex⟩
/-- x = e, then the rest -/
theorem sv_let (h : Ev te σ G M R) (k : ∀ v G' M', Ex G G' → R G' v M' → Sv E u (σ.set i (some v)) G' M' P) : Sv E (tSeq (tAsg te (gName i)) u) σ G M P := fun G1 H F D e m hd =>
  h G1 H F e m _ fun v G2 M2 H2 e2 m2 r => k v G2 M2 (e.trans e2) r G2 H2 F D (Ex.refl _) m2 (hd.up e2)
theorem sv_if (h : EvT tt σ G M a M1) (k1 : ∀ G', Ex G G' → a = true → Sv E t σ G' M1 P) (k2 : ∀ G', Ex G G' → a = false → Sv E u σ G' M1 P) : Sv E (tIfS tt t u) σ G M P := fun G1 H F D e m hd =>
  h G1 H F e m _ fun G2 H2 e2 m2 => by
    cases a with
    | true =>
      show (if true = true then _ else _)
      rw [if_pos rfl]
      exact k1 G2 (e.trans e2) rfl G2 H2 F D (Ex.refl _) m2 (hd.up e2)
    | false =>
      show (if false = true then _ else _)
      rw [if_neg Bool.false_ne_true]
      exact k2 G2 (e.trans e2) rfl G2 H2 F D (Ex.refl _) m2 (hd.up e2)
/-- if .. : leaves or not; then the rest -/
theorem sv_ifs {t' : TS} (h : EvT tt σ G M a M1) (k1 : ∀ G', Ex G G' → a = true → Sv E t σ G' M1 { P with nx := fun G2 σ2 M2 => Sv E u σ2 G2 M2 P }) (k2 : ∀ G', Ex G G' → a = false → Sv E t' σ G' M1 { P with nx := fun G2 σ2 M2 => Sv E u σ2 G2 M2 P }) :
    Sv E (tSeq (tIfS tt t t') u) σ G M P := sv_seq (sv_if h k1 k2) fun _ _ _ _ n => n
def tRaise (E : XK) (cls : Value) : TS := fun _ _ H => E cls none H
theorem sv_raise {cls : Value} (k : ∀ G', Ex G G' → P.ex cls none G' M) : Sv E (tRaise E cls) σ G M P := fun G1 H F D e m hd => hd.ex cls none G1 M H (Ex.refl _) m (k G1 e)
theorem Sv.imp (h : Sv E t σ G M P) (nx : ∀ G2 σ2 M2, Ex G G2 → P.nx G2 σ2 M2 → P'.nx G2 σ2 M2) (rt : ∀ G2 v M2, Ex G G2 → P.rt G2 v M2 → P'.rt G2 v M2) (bk : ∀ G2 σ2 M2, Ex G G2 → P.bk G2 σ2 M2 → P'.bk G2 σ2 M2) (ct : ∀ G2 σ2 M2, Ex G G2 → P.ct G2 σ2 M2 → P'.ct G2 σ2 M2)
    (ex : ∀ c d G2 M2, Ex G G2 → P.ex c d G2 M2 → P'.ex c d G2 M2) : Sv E t σ G M P' := fun G1 H F D e m hd => h G1 H F D e m ⟨fun _ _ _ _ e2 m2 n => hd.nx _ _ _ _ e2 m2 (nx _ _ _ (e.trans e2) n), fun _ _ _ _ e2 m2 n => hd.rt _ _ _ _ e2 m2 (rt _ _ _ (e.trans e2) n),
      fun _ _ _ _ e2 m2 n => hd.bk _ _ _ _ e2 m2 (bk _ _ _ (e.trans e2) n), fun _ _ _ _ e2 m2 n => hd.ct _ _ _ _ e2 m2 (ct _ _ _ (e.trans e2) n), fun _ _ _ _ _ e2 m2 n => hd.ex _ _ _ _ _ e2 m2 (ex _ _ _ _ (e.trans e2) n)⟩
/-- l[i] = e of an owned list -/
theorem sv_setIx {tx ti : TE} {l : Addr} {xs : List V} {k : Int} {j n : Nat} (h : Ev te σ G M (isV x M1)) (h1 : Ev tx σ G M1 (isV (.ref l) M1)) (h2 : Ev ti σ G M1 (isV (.int k) M1)) (hl : M1[n]? = some (l, .lst xs)) (hj : ixN xs.length k = some j)
    (q : ∀ G', Ex G G' → P.nx G' σ (M1.set n (l, .lst (xs.set j x)))) : Sv E (tAsg te (gSub tx ti rSetL)) σ G M P := fun G1 H F D e m hd =>
  h G1 H F e m _ fun v G2 M2' H2 e2 m2 r2 => by
    obtain ⟨rfl, rfl⟩ := r2
    refine h1 G2 H2 F (e.trans e2) m2 _ fun v3 G3 M3' H3 e3 m3 r3 => ?_
    obtain ⟨rfl, rfl⟩ := r3
    refine h2 G3 H3 F ((e.trans e2).trans e3) m3 _ fun v4 G4 M4' H4 e4 m4 r4 => ?_
    obtain ⟨rfl, rfl⟩ := r4
    exact ⟨l, xs, k, j, rfl, rfl, m4.getF hl, hj, hd.nx _ _ _ _ ((e2.trans e3).trans e4) (m4.putF hl) (q G4 (((e.trans e2).trans e3).trans e4))⟩
/-- a new list that is owned -/
abbrev own (K : PySem.W.Frag) (ds : List PyData) (M : Mem) : Post := fun G v M' => ∃ p vs, v = .ref p ∧ M' = M ++ [(p, .lst vs)] ∧ DpAll K G vs ds
theorem Ev.frz {ds : List PyData} (h : Ev te σ G M (own K ds M1)) : Ev te σ G M (isD K (.list ds) M1) := fun G1 H F e m Q q =>
  h G1 H F e m Q fun v G2 M2 H2 e2 m2 r => by
    obtain ⟨p, vs, rfl, rfl, da⟩ := r
    obtain ⟨m3, e3⟩ := m2.freezeLast
    exact q _ _ M1 H2 (e2.trans e3) m3 ⟨.lst (SqL.of upd_same) (dma da e3), rfl⟩
theorem ev_lstO {t : TA} {ds : List PyData} (h : EvA t σ G M (ds.map fun d => fun G v => Dp K G v d) M1) (hl : ds.length ≤ 1000) : Ev (tLst t) σ G M (own K ds M1) := fun G1 H F e m Q q =>
  h G1 H F e m _ fun vs G2 H2 e2 m2 a => ⟨by rw [dpa_len (allD (K := K) a)]; exact Nat.le_of_lt (small1000 hl), fun p hp => q _ _ _ _ e2 (m2.newMid hp) ⟨p, vs, rfl, rfl, allD a⟩⟩
theorem mem_mid {A F : Mem} {p : Addr × HO} : (A ++ p :: F) = (A ++ [p]) ++ F := by rw [List.append_assoc]; rfl
section comp
variable {own' : List Nat} {k : Nat} {Mi : Nat → Mem} {fd : Nat → PyData} {ds : List PyData} {n : Nat}
def kept (n : Nat) (bb : Nat → Bool) (fd : Nat → PyData) : List PyData := (List.range n).flatMap fun i => if bb i then [fd i] else []
theorem kept_succ (n : Nat) (bb : Nat → Bool) (fd : Nat → PyData) : kept (n + 1) bb fd = kept n bb fd ++ if bb n then [fd n] else [] := by
  unfold kept
  rw [List.range_succ, List.flatMap_append]
  simp
theorem kept_len (n : Nat) (bb : Nat → Bool) (fd : Nat → PyData) : (kept n bb fd).length ≤ n := by
  induction n with
  | zero => exact Nat.le_refl _
  | succ n ih =>
    rw [kept_succ, List.length_append]
    split <;> simp <;> omega
theorem kept_all (n : Nat) (fd : Nat → PyData) : kept n (fun _ => true) fd = (List.range n).map fd := by
  induction n with
  | zero => rfl
  | succ n ih => rw [kept_succ, ih, List.range_succ, List.map_append]; rfl
theorem sz_ok {n : Nat} (h : n ≤ 100000) : n < sizeLine := Nat.lt_of_le_of_lt h (by decide)
end comp
end
end SX
set_option Elab.async false
set_option linter.all false
set_option maxRecDepth 100000
namespace SX
open PySem PySem.Spec L2
section
variable {P : Program} {w : World} {K : PySem.W.Frag} {mg : Str → Option Value} {base : Heap}
/-- a def that raises nothing -/
theorem fn_sv {α : Type} {pre : α → Hp → Mem → List V → Prop} {post : α → Mem → Post} {x qual : Str} {st : Stmt} {f : Addr} {fd : FuncData} {N ps : List Str} {k : Nat} (F : Fun K x qual st f fd) (S : FnScope N ps (defScope st))
    (len : ∀ x G M vs, pre x G M vs → vs.length = ps.length)
    (body : ∀ (cdv : Value) (A : Around) (outer : List Env) (s : Shared) (H : Hp) (E : XK), Room k (A.deeper (PyProof.Rows.envOfC qual (defScope st) s.heap.objs.size f cdv)) →
      ∃ t, PSs (cxOf CX0 P w K mg base N qual (defScope st) f cdv A outer s H E).nox (defBody st) t ∧ ∀ x G M vs, pre x G M vs → Sv E t (start N vs) G M { nx := fun G' _ M' => post x M G' .non M', rt := post x M }) :
    FnOk P w K mg base CX0 (k + 1) f fd ps (spec pre post) := by
  refine F.ok S (fun vs H Q E h => ?_) (fun cdv A outer s H vs Q E hr h => ?_)
  · obtain ⟨x, G, M, Fr, m, p, q⟩ := h
    exact len x G M vs p
  · obtain ⟨x, G, M, Fr, m, p, q⟩ := h
    obtain ⟨t, ht, hs⟩ := body cdv A outer s H E hr
    refine ⟨t, ht, hs x G M vs p G H Fr _ (Ex.refl _) m ⟨?_, ?_, ?_, ?_, ?_⟩⟩
    · exact fun σ2 G2 M2 H2 e2 m2 n => q _ G2 M2 H2 e2 m2 n
    · exact fun v G2 M2 H2 e2 m2 n => q v G2 M2 H2 e2 m2 n
    · exact fun σ2 G2 M2 H2 e2 m2 n => n.elim
    · exact fun σ2 G2 M2 H2 e2 m2 n => n.elim
    · exact fun c d G2 M2 H2 e2 m2 n => n.elim
/-- a promise with errors -/
def specX {α : Type} (pre : α → Hp → Mem → List V → Prop) (post : α → Mem → Post) (exc : α → Mem → Value → Option Addr → Hp → Mem → Prop) : Sp := fun vs H Q E => ∃ x G M F, Me G (M ++ F) H ∧ pre x G M vs ∧
  (∀ v G' M' H', Ex G G' → Me G' (M' ++ F) H' → post x M G' v M' → Q v H') ∧ (∀ c d G' M' H', Ex G G' → Me G' (M' ++ F) H' → exc x M c d G' M' → E c d H')
theorem fn_svX {α : Type} {pre : α → Hp → Mem → List V → Prop} {post : α → Mem → Post} {exc : α → Mem → Value → Option Addr → Hp → Mem → Prop} {x qual : Str} {st : Stmt} {f : Addr} {fd : FuncData} {N ps : List Str} {k : Nat} (F : Fun K x qual st f fd) (S : FnScope N ps (defScope st))
    (len : ∀ x G M vs, pre x G M vs → vs.length = ps.length)
    (body : ∀ (cdv : Value) (A : Around) (outer : List Env) (s : Shared) (H : Hp) (E : XK), Room k (A.deeper (PyProof.Rows.envOfC qual (defScope st) s.heap.objs.size f cdv)) →
      ∃ t, PSs (cxOf (L2.CX P w) P w K mg base N qual (defScope st) f cdv A outer s H E) (defBody st) t ∧ ∀ x G M vs, pre x G M vs → Sv E t (start N vs) G M { nx := fun G' _ M' => post x M G' .non M', rt := post x M, ex := exc x M }) :
    FnOk P w K mg base (L2.CX P w) (k + 1) f fd ps (specX pre post exc) := by
  refine F.okX S (fun vs H Q E h => ?_) (fun cdv A outer s H vs Q E hr h => ?_)
  · obtain ⟨x, G, M, Fr, m, p, q⟩ := h
    exact len x G M vs p
  · obtain ⟨x, G, M, Fr, m, p, q, qx⟩ := h
    obtain ⟨t, ht, hs⟩ := body cdv A outer s H E hr
    refine ⟨t, ht, hs x G M vs p G H Fr _ (Ex.refl _) m ⟨?_, ?_, ?_, ?_, ?_⟩⟩
    · exact fun σ2 G2 M2 H2 e2 m2 n => q _ G2 M2 H2 e2 m2 n
    · exact fun v G2 M2 H2 e2 m2 n => q v G2 M2 H2 e2 m2 n
    · exact fun σ2 G2 M2 H2 e2 m2 n => n.elim
    · exact fun σ2 G2 M2 H2 e2 m2 n => n.elim
    · exact fun c d G2 M2 H2 e2 m2 n => qx c d G2 M2 H2 e2 m2 n
/-- where the errors cannot come, it is a plain promise -/
theorem FnOk.calm {α : Type} {pre pre' : α → Hp → Mem → List V → Prop} {post : α → Mem → Post} {exc : α → Mem → Value → Option Addr → Hp → Mem → Prop} {CX : CXT} {k : Nat} {f : Addr} {fd : FuncData} {ps : List Str} (F : FnOk P w K mg base CX k f fd ps (specX pre post exc))
    (hp : ∀ x G M vs, pre' x G M vs → pre x G M vs) (hx : ∀ x G M vs c d G' M', pre' x G M vs → ¬ exc x M c d G' M') : FnOk P w K mg base CX k f fd ps (spec pre' post) :=
  F.imp fun vs H Q E h => by
    obtain ⟨x, G, M, Fr, m, p, q⟩ := h
    exact ⟨x, G, M, Fr, m, hp _ _ _ _ p, q, fun c d G' M' H' _ _ z => absurd z (hx x G M vs c d G' M' p)⟩
end
section
variable {X : Cx} {CX : CXT} {k : Nat} {C f : Addr} {fd : FuncData} {ps : List Str} {sp : Sp} {E : XK}
/-- len(o) by the own __len__ -/
def rLenO (C : Addr) (sp : Sp) (E : XK) : List V → Hp → VK → Prop := fun xs H Q => ∃ a dx fs, xs = [.ref a] ∧ H a = some (.ins C dx fs) ∧ sp [.ref a] H (fun v H2 => ∃ n : Int, v = .int n ∧ (0 ≤ n ∧ n < 2 ^ 63) ∧ Q (.int n) H2) E
/-- o[i] by the own __getitem__ -/
def rIxO (C : Addr) (sp : Sp) (E : XK) : R2 := fun x y H Q => ∃ a dx fs, x = .ref a ∧ H a = some (.ins C dx fs) ∧ sp [.ref a, y] H Q E
/-- a comparison by the own method; the other one is of the same class -/
def rCmpO (C : Addr) (sp : Sp) (E : XK) : R2 := fun x y H Q => ∃ a dx fs b dy gs, x = .ref a ∧ y = .ref b ∧ H a = some (.ins C dx fs) ∧ H b = some (.ins C dy gs) ∧ sp [.ref a, .ref b] H Q E
/-- sum of a tuple of ints -/
def rSumT (K : PySem.W.Frag) : List V → Hp → VK → Prop := fun vs H Q => ∃ (a : Addr) (ns : List Int), vs = [V.ref a] ∧ SqT K H a (ns.map V.int) ∧ Q (.int ns.sum) H
end
section
variable {K : PySem.W.Frag} {σ : L2.St} {G G' H : Hp} {M M1 M2 M3 F : Mem} {R : Post} {ta tb te : TE} {x y : V} {d e : PyData} {ds : List PyData} {a : Bool} {i : Int}
def tyName : PyData → String
  | .none => "NoneType"
  | .bool _ => "bool"
  | .int _ => "int"
  | .str _ => "str"
  | .list _ => "list"
  | .tuple _ => "tuple"
  | .dict _ => "dict"
theorem tyx_of {v : V} (h : Dp K H v d) : TyX K H v (.type (tyName d)) := by
  cases h with
  | non => exact .base .non
  | bl b => exact .base (.bl b)
  | int i => exact .base (.int i)
  | str s => exact .base (.str s)
  | lst hs _ =>
    rcases hs with (hs | ⟨o, hs⟩) | ⟨o, its, n, hk, hc, _⟩
    · exact .base (.lst hs)
    · exact .base (.frz hs)
    · exact .kList hk hc
  | tup hs _ =>
    rcases hs with (hs | ⟨o, hs⟩) | ⟨o, its, n, hk, hc, _⟩
    · exact .base (.tup hs)
    · exact .fTuple hs
    · exact .kTuple hk hc
def isTyS (n T : String) : Bool := n == T || (n == "bool" && T == "int")
def isTy (d : PyData) (T : String) : Bool := isTyS (tyName d) T
def rLenS (K : PySem.W.Frag) : List V → Hp → VK → Prop := fun xs H Q => ∃ p ys, xs = [.ref p] ∧ (SqL K H p ys ∨ SqT K H p ys) ∧ Q (.int ys.length) H
def rListS (K : PySem.W.Frag) : List V → Hp → VK → Prop := fun xs H Q => ∃ p ys, xs = [.ref p] ∧ (SqL K H p ys ∨ SqT K H p ys) ∧ ∀ l, H l = none → Q (.ref l) (upd H l (.lst ys))
def rTupS (K : PySem.W.Frag) : List V → Hp → VK → Prop := fun xs H Q => ∃ p ys, xs = [.ref p] ∧ ((SqL K H p ys ∧ ∀ l, H l = none → Q (.ref l) (upd H l (.tup ys))) ∨ (SqT K H p ys ∧ Q (.ref p) H))
def rInt1 : List V → Hp → VK → Prop := fun xs H Q => (∃ i, xs = [.int i] ∧ Q (.int i) H) ∨ ∃ k, xs = [.bl k] ∧ Q (.int (if k then 1 else 0)) H
theorem c_len {X : Cx} : CallR X (.builtin "len") (rLenS X.K) := call_len_seq
theorem c_int {X : Cx} : CallR X (.type "int") rInt1 := call_int1
theorem ev_int (h : Ev ta σ G M (isV (.int i) M1)) : Ev (tCB rInt1 (tCons ta tNil)) σ G M (isV (.int i) M1) :=
  ev_CB (Ps := [fun _ v => v = .int i]) (ea_cons h ea_nil) fun G1 H F vs e m p' Q q => by
    match vs, p' with
    | [v], ⟨p1, _⟩ =>
      subst p1
      exact .inl ⟨i, rfl, q _ _ _ _ (Ex.refl _) m ⟨rfl, rfl⟩⟩
/-- slices -/
theorem dpa_drop : ∀ {vs : List V} {ds : List PyData} (n : Nat), DpAll K G vs ds → DpAll K G (vs.drop n) (ds.drop n)
  | _, _, 0, h => h
  | _, [], n + 1, h => by cases h; exact .nil
  | _, d :: ds, n + 1, h => by
    cases h with
    | cons _ h2 => exact dpa_drop n h2
theorem dpa_take : ∀ {vs : List V} {ds : List PyData} (n : Nat), DpAll K G vs ds → DpAll K G (vs.take n) (ds.take n)
  | _, _, 0, h => .nil
  | _, [], n + 1, h => by cases h; exact .nil
  | _, d :: ds, n + 1, h => by
    cases h with
    | cons h1 h2 => exact .cons h1 (dpa_take n h2)
theorem dpa_rev : ∀ {vs : List V} {ds : List PyData}, DpAll K G vs ds → DpAll K G vs.reverse ds.reverse
  | _, [], h => by cases h; exact .nil
  | _, d :: ds, h => by
    cases h with
    | cons h1 h2 =>
      rw [List.reverse_cons, List.reverse_cons]
      exact dpa_app (dpa_rev h2) (.cons h1 .nil)
def cutD (ds : List PyData) (lo hi : Option Int) : List PyData := (ds.drop (HT.sIx ds.length 0 lo)).take (HT.sIx ds.length ds.length hi - HT.sIx ds.length 0 lo)
theorem dpa_cut {vs : List V} (h : DpAll K G vs ds) (lo hi : Option Int) : DpAll K G (cutV vs lo hi) (cutD ds lo hi) := by
  unfold cutV cutD
  rw [dpa_len h]
  exact dpa_take _ (dpa_drop _ h)
def EvO (to : TO) (σ : L2.St) (G : Hp) (M : Mem) (o : Option Int) (M' : Mem) : Prop := ∀ G1 H F, Ex G G1 → Me G1 (M ++ F) H → ∀ Q : Option Int → Hp → Prop, (∀ G2 H2, Ex G1 G2 → Me G2 (M' ++ F) H2 → Q o H2) → to σ H Q
theorem eo_none : EvO tNoPart σ G M none M := fun G1 H F e m Q q => q G1 H (Ex.refl _) m
theorem eo_some (h : Ev ta σ G M (isV (.int i) M1)) : EvO (tPart ta) σ G M (some i) M1 := fun G1 H F e m Q q => h G1 H F e m _ fun v G2 M2 H2 e2 m2 r => by
  obtain ⟨rfl, rfl⟩ := r
  exact ⟨i, rfl, q _ _ e2 m2⟩
theorem ev_slL {tl th : TO} {lo hi : Option Int} (h : Ev te σ G M (isD K (.list ds) M1)) (hl : EvO tl σ G M1 lo M1) (hh : EvO th σ G M1 hi M1) : Ev (tSl (rSlL K) te tl th) σ G M (own K (cutD ds lo hi) M1) := fun G1 H F e m Q q =>
  h G1 H F e m _ fun v G2 M2 H2 e2 m2 r => by
    obtain ⟨dv, rfl⟩ := r
    refine hl G2 H2 F (e.trans e2) m2 _ fun G3 H3 e3 m3 => hh G3 H3 F ((e.trans e2).trans e3) m3 _ fun G4 H4 e4 m4 => ?_
    obtain ⟨a, xs, rfl, hs, ha⟩ := dp_lst (dm dv (e3.trans e4))
    exact ⟨a, xs, rfl, ex_l m4.ex hs, fun p hp => q _ G4 _ _ ((e2.trans e3).trans e4) (m4.newMid hp) ⟨p, _, rfl, rfl, dpa_cut ha lo hi⟩⟩
end
section
variable {X : Cx} {K : PySem.W.Frag}
theorem k_len (hK : X.K = K) : CallR X (.builtin "len") (rLenS K) := hK ▸ c_len
theorem k_isi (hK : X.K = K) : CallR X (.builtin "isinstance") (rIsi K) := hK ▸ call_isi
theorem k_all (hK : X.K = K) (hc : X.calm = true) : CallR X (.builtin "all") (rAll K) := hK ▸ cr_all hc
theorem k_eqD (hK : X.K = K) (hu : X.A.units + 64 < cLine) : OpR X (compareOp .Eq) (rEqD K) := hK ▸ op_eqD hu
theorem k_ixL (hK : X.K = K) : IxR X (rIxL K) := hK ▸ ix_list
theorem k_ixT (hK : X.K = K) : IxR X (rIxT K) := hK ▸ ix_tup
theorem k_slL (hK : X.K = K) : SlR X (rSlL K) := hK ▸ sl_list
end
end SX
set_option Elab.async false
set_option linter.all false
set_option maxRecDepth 100000
namespace SX
open PySem PySem.Spec L2
/-- data as it stands in the heap itself -/
def Da (K : PySem.W.Frag) (G : Hp) (M : Mem) (v : V) (d : PyData) : Prop := ∀ G1 H F, Ex G G1 → Me G1 (M ++ F) H → Dp K H v d
section
variable {E : XK} {K : PySem.W.Frag} {σ : L2.St} {G G' H : Hp} {M M1 M2 M3 F : Mem} {R : Post} {P P' : Po} {te ta tb : TE} {tt : TT} {t u : TS} {x y z v : V} {d e : PyData} {ds : List PyData} {a b : Bool} {i : Nat}
theorem Da.of (h : Dp K G v d) : Da K G M v d := fun _ _ _ e m => dm h (e.trans m.ex)
theorem Da.ex (h : Da K G M v d) (e : Ex G G') : Da K G' M v d := fun G1 H F e1 m => h G1 H F (e.trans e1) m
theorem Da.lst {p : Addr} {xs : List V} (h : AtL K G M p xs) (hd : DpAll K G xs ds) : Da K G M (.ref p) (.list ds) := fun G1 H F e m => .lst (h G1 H F e m) (dma hd (e.trans m.ex))
theorem atI_int {α : Type} {xs : List α} {i : Int} {x : α} (h0 : 0 ≤ i) (h : xs[i.toNat]? = some x) : atI xs i = some x := by
  have := L2.atI_nat (j := i.toNat) h
  rwa [Int.toNat_of_nonneg h0] at this
/-- a new instance -/
theorem ev_make {α : Type} {pre : α → Hp → Mem → List V → Prop} {post : α → Mem → Post} {tA : TA} {E : XK} {C : Addr} {Ps : List (Hp → V → Prop)} (xx : Addr → Addr → α) (h : EvA tA σ G M Ps M1)
    (hp : ∀ G1 p dx vs, Ex G G1 → AllP G1 Ps vs → pre (xx p dx) G1 (M1 ++ [(p, .ins C dx [])]) (.ref p :: vs))
    (hq : ∀ G1 p dx v M2, Ex G G1 → post (xx p dx) (M1 ++ [(p, .ins C dx [])]) G1 v M2 → v = .non ∧ R G1 (.ref p) M2) : Ev (tMake C (spec pre post) [] E tA) σ G M R := fun G1 H F e m Q q =>
  h G1 H F e m _ fun vs G2 H2 e2 m2 a p dx hpn hdn hne => by
    have hp2 : upd H2 dx (.own p) p = none := by rw [upd_ne hne.symm]; exact hpn
    refine ⟨xx p dx, G2, _, F, (m2.new hdn).newMid hp2, by rw [List.append_nil]; exact hp G2 p dx vs (e.trans e2) a, fun v G3 M3 H3 e3 m3 r => ?_⟩
    obtain ⟨rfl, r3⟩ := hq G3 p dx v M3 ((e.trans e2).trans e3) r
    exact ⟨rfl, q _ G3 M3 H3 (e2.trans e3) m3 r3⟩
end
structure Deck where
  a : Int
  b : Int
  c : Int
def Deck.ho (D : Deck) : HO := .lst [.int D.a, .int D.b, .int D.c]
def stir (c b : Int) : Int := ((((c * 48271 + b * 69621) % 2147483647) * ((c * 48271 + b * 69621) % 2147483647) + b) % 2147483629 * 40692) % 2147483399
/-- what is drawn, the deck then -/
def dv (D : Deck) (n : Int) : Int := if D.a > 0 then D.a % n else (stir D.c (D.b + 1) / 8) % n
def dn (D : Deck) (n : Int) : Deck := if D.a > 0 then ⟨D.a / n, D.b, D.c⟩ else ⟨D.a, D.b + 1, D.c⟩
theorem dv_lo {D : Deck} {n : Int} (h : 0 < n) : 0 ≤ dv D n := by
  unfold dv
  split <;> exact Int.emod_nonneg _ (by omega)
theorem dv_hi {D : Deck} {n : Int} (h : 0 < n) : dv D n < n := by
  unfold dv
  split <;> exact Int.emod_lt_of_pos _ h
abbrev drawPre : (Addr × Nat × Deck × Int) → Hp → Mem → List V → Prop := fun x G M vs => vs = [.ref x.1, .int x.2.2.2] ∧ 0 < x.2.2.2 ∧ x.2.2.2 < 2 ^ 200 ∧ M[x.2.1]? = some (x.1, x.2.2.1.ho)
abbrev drawPost : (Addr × Nat × Deck × Int) → Mem → Post := fun x M => isV (.int (dv x.2.2.1 x.2.2.2)) (M.set x.2.1 (x.1, (dn x.2.2.1 x.2.2.2).ho))
end SX
set_option Elab.async false
set_option linter.all false
set_option maxRecDepth 100000
namespace SX
open PySem PySem.Spec L2
def isInt : PyData → Bool
  | .int _ => true
  | _ => false
def intOf : PyData → Int
  | .int n => n
  | _ => 0
def isWhole (d : PyData) (lo hi : Int) : Bool := isInt d && (decide (lo ≤ intOf d) && decide (intOf d ≤ hi))
abbrev wholePre (K : PySem.W.Frag) : (PyData × Int × Int) → Hp → Mem → List V → Prop := fun x G M vs => ∃ v, vs = [v, .int x.2.1, .int x.2.2] ∧ Dp K G v x.1
abbrev wholePost : (PyData × Int × Int) → Mem → Post := fun x M => isV (.bl (isWhole x.1 x.2.1 x.2.2)) M
/-- one argument, any data; a truth value back -/
abbrev d1Pre (K : PySem.W.Frag) : PyData → Hp → Mem → List V → Prop := fun d G M vs => ∃ v, vs = [v] ∧ Dp K G v d
abbrev b1Post (f : PyData → Bool) : PyData → Mem → Post := fun d M => isV (.bl (f d)) M
def horner (base : Int) (figs : List Int) (last : Int) : Int := figs.foldr (fun f v => v * base + f) last
def colD (c : List Int) : PyData := .tuple (c.map .int)
def GoodCol (b r : Int) (c : List Int) : Prop := (c.length : Int) = r ∧ ∀ f ∈ c, 0 ≤ f ∧ f < b
def valueOf (b : Int) (cs : List (List Int)) : Int := horner b (cs.map List.sum) 0
def shF (b r : V) (l : V) : List (Str × V) := putF "_columns" l (putF "_rows" r (putF "_base" b []))
/-- a sheet at p, whoever owns its list -/
def ShAt (K : PySem.W.Frag) (C : Addr) (G : Hp) (M : Mem) (p : Addr) (b r : Int) (cs : List (List Int)) : Prop :=
  ∃ dx l xs, At G M p (.ins C dx (shF (.int b) (.int r) (.ref l))) ∧ AtL K G M l xs ∧ DpAll K G xs (cs.map colD)
theorem ShAt.ex {K : PySem.W.Frag} {C : Addr} {G G' : Hp} {M : Mem} {p : Addr} {b r : Int} {cs : List (List Int)} (h : ShAt K C G M p b r cs) (e : Ex G G') : ShAt K C G' M p b r cs := by
  obtain ⟨dx, l, xs, h1, h2, h3⟩ := h
  exact ⟨dx, l, xs, h1.ex e, h2.ex e, dma h3 e⟩
/-- a promise of a sheet's reading method -/
abbrev shPre (K : PySem.W.Frag) (C : Addr) : (Addr × Int × Int × List (List Int)) → Hp → Mem → List V → Prop := fun x G M vs => vs = [.ref x.1] ∧ ShAt K C G M x.1 x.2.1 x.2.2.1 x.2.2.2
theorem kept_ext {n : Nat} {ds : List PyData} {fd : Nat → PyData} (hl : ds.length = n) (h : ∀ i d, ds[i]? = some d → fd i = d) : kept n (fun _ => true) fd = ds := by
  rw [kept_all]
  apply List.ext_getElem?
  intro i
  rw [List.getElem?_map]
  by_cases hi : i < n
  · rw [List.getElem?_range hi]
    have e : ds[i]? = some ds[i] := List.getElem?_eq_getElem (by omega)
    rw [e]
    exact congrArg some (h i _ e)
  · rw [List.getElem?_eq_none (by simp; omega), List.getElem?_eq_none (by omega)]
    rfl
/-- the list of the script -/
def spLaw (K : PySem.W.Frag) : Sp := fun vs H Q _ => ∃ (a : Addr) (ns : List Int), vs = [.ref a] ∧ SqL K H a (ns.map V.int) ∧ ns.length ≤ 63 ∧ ∀ H', Q (.bl true) H'
abbrev lawPre (K : PySem.W.Frag) : List Int → Hp → Mem → List V → Prop := fun ns G M vs => ∃ v, vs = [v] ∧ Dp K G v (.list (ns.map .int)) ∧ ns.length ≤ 63 ∧ M = []
abbrev lawPost : List Int → Mem → Post := fun _ M G v M' => v = .bl true
theorem law_fin {P : Program} {w : World} {K : PySem.W.Frag} {mg : Str → Option Value} {base : Heap} {CX : CXT} {k : Nat} {f : Addr} {fd : FuncData} {ps : List Str} (F : FnOk P w K mg base CX k f fd ps (spec (lawPre K) lawPost)) : FnOk P w K mg base CX k f fd ps (spLaw K) :=
  F.imp fun vs H Q E h => by
    obtain ⟨a, ns, rfl, hs, hl, q⟩ := h
    refine ⟨ns, H, [], [], ⟨Ex.refl H, fun p hp => (by cases hp), List.nodup_nil⟩, ⟨.ref a, rfl, .lst hs (ints_dpAll ns), hl, rfl⟩, fun v G' M' H' _ _ r => ?_⟩
    subst r
    exact q H'
end SX
namespace SX
open PySem PySem.Spec L2
end SX
namespace SX
open PySem PySem.Spec L2
abbrev placePre (K : PySem.W.Frag) : (Int × List Int × Int) → Hp → Mem → List V → Prop := fun x G M vs => ∃ v, vs = [.int x.1, v, .int x.2.2] ∧ Dp K G v (.list (x.2.1.map .int)) ∧ -(2 ^ 64) < x.1 ∧ x.1 < 2 ^ 64
abbrev placePost : (Int × List Int × Int) → Mem → Post := fun x M => isV (.int (horner x.1 x.2.1 x.2.2)) M
end SX
namespace SX
open PySem PySem.Spec L2
/-- data; a list may be owned, its items stand still -/
def Dt (K : PySem.W.Frag) (G : Hp) (M : Mem) (v : V) (d : PyData) : Prop := Dp K G v d ∨ ∃ a xs ds, v = .ref a ∧ d = .list ds ∧ AtL K G M a xs ∧ DpAll K G xs ds
theorem Dt.ex {K : PySem.W.Frag} {G G' : Hp} {M : Mem} {v : V} {d : PyData} (h : Dt K G M v d) (e : Ex G G') : Dt K G' M v d := by
  rcases h with h | ⟨a, xs, ds, h1, h2, h3, h4⟩
  · exact .inl (dm h e)
  · exact .inr ⟨a, xs, ds, h1, h2, h3.ex e, dma h4 e⟩
theorem Dt.lst {K : PySem.W.Frag} {G : Hp} {M : Mem} {v : V} {ds : List PyData} (h : Dt K G M v (.list ds)) : ∃ a xs, v = .ref a ∧ AtL K G M a xs ∧ DpAll K G xs ds := by
  rcases h with h | ⟨a, xs, ds', h1, h2, h3, h4⟩
  · obtain ⟨a, xs, h1, h2, h3⟩ := dp_lst h
    exact ⟨a, xs, h1, .G h2, h3⟩
  · cases h2
    exact ⟨a, xs, h1, h3, h4⟩
/-- good arguments of a sheet -/
structure GoodSh (b r : Int) (cs : List (List Int)) : Prop where
  b2 : 2 ≤ b
  b12 : b ≤ 12
  r1 : 1 ≤ r
  r4 : r ≤ 4
  len : cs.length ≤ 10000
  col : ∀ c ∈ cs, GoodCol b r c
end SX
namespace SX
open PySem PySem.Spec L2
abbrev shGPre (K : PySem.W.Frag) (C : Addr) : (Addr × Int × Int × List (List Int)) → Hp → Mem → List V → Prop := fun x G M vs => shPre K C x G M vs ∧ x.2.2.2.length ≤ 100000 ∧ (-(2 ^ 64) < x.2.1 ∧ x.2.1 < 2 ^ 64)
abbrev shIxPre (K : PySem.W.Frag) (C : Addr) : ((Addr × Int × Int × List (List Int)) × Int × List Int) → Hp → Mem → List V → Prop := fun x G M vs => vs = [.ref x.1.1, .int x.2.1] ∧ ShAt K C G M x.1.1 x.1.2.1 x.1.2.2.1 x.1.2.2.2 ∧ 0 ≤ x.2.1 ∧ x.1.2.2.2[x.2.1.toNat]? = some x.2.2
end SX
namespace SX
open PySem PySem.Spec L2
end SX
set_option Elab.async false
set_option linter.all false
set_option maxRecDepth 100000
namespace SX
open PySem PySem.Spec L2
open PyData
structure Sh (n : Nat) (d : PyData) : Prop where
  lay : PyData.canLay0 d = true
  dep : PyData.depth d ≤ n
theorem Sh.ok {n : Nat} {d : PyData} (h : Sh n d) (hn : n ≤ 64 := by decide) : SeqAt.shaped d = true := Bool.and_eq_true_iff.mpr ⟨h.lay, decide_eq_true (Nat.le_trans h.dep hn)⟩
theorem sh_int {n : Nat} (i : Int) : Sh n (.int i) := ⟨by simp only [canLay0], by simp only [PyData.depth]; omega⟩
theorem sh_non {n : Nat} : Sh n .none := ⟨by simp only [canLay0], by simp only [PyData.depth]; omega⟩
theorem sh_all {n : Nat} : ∀ {ds : List PyData}, (∀ d ∈ ds, Sh n d) → PyData.canLayAll0 ds = true ∧ PyData.depthAll ds ≤ n
  | [], _ => ⟨by simp only [canLayAll0], by simp only [PyData.depthAll]; omega⟩
  | d :: ds, h => by
    have h1 := h d List.mem_cons_self
    have h2 := sh_all (ds := ds) fun e he => h e (List.mem_cons_of_mem _ he)
    refine ⟨?_, ?_⟩
    · simp only [canLayAll0, h1.lay, h2.1, Bool.and_self]
    · simp only [PyData.depthAll]
      have := h1.dep
      omega
theorem sh_lst {n : Nat} {ds : List PyData} (h : ∀ d ∈ ds, Sh n d) : Sh (n + 1) (.list ds) := by
  obtain ⟨h1, h2⟩ := sh_all h
  exact ⟨by simp only [canLay0]; exact h1, by simp only [PyData.depth]; omega⟩
theorem sh_tup {n : Nat} {ds : List PyData} (h : ∀ d ∈ ds, Sh n d) : Sh (n + 1) (.tuple ds) := by
  obtain ⟨h1, h2⟩ := sh_all h
  exact ⟨by simp only [canLay0]; exact h1, by simp only [PyData.depth]; omega⟩
theorem sh_ints {n : Nat} (ns : List Int) : Sh (n + 1) (.list (ns.map PyData.int)) := sh_lst fun d hd => by
  obtain ⟨i, _, rfl⟩ := List.mem_map.mp hd
  exact sh_int i
theorem sh_col {n : Nat} (c : List Int) : Sh (n + 1) (colD c) := sh_tup fun d hd => by
  obtain ⟨i, _, rfl⟩ := List.mem_map.mp hd
  exact sh_int i
theorem sh_cols {n : Nat} (cs : List (List Int)) : Sh (n + 2) (.list (cs.map colD)) := sh_lst fun d hd => by
  obtain ⟨i, _, rfl⟩ := List.mem_map.mp hd
  exact sh_col i
theorem eqv_ints : ∀ (a b : List Int), PyData.eqvAll (a.map PyData.int) (b.map PyData.int) = decide (a = b)
  | [], [] => by simp [PyData.eqvAll]
  | [], _ :: _ => by simp [PyData.eqvAll]
  | _ :: _, [] => by simp [PyData.eqvAll]
  | x :: a, y :: b => by
    simp only [List.map_cons, PyData.eqvAll, PyData.eqv, eqv_ints a b]
    by_cases h : x = y <;> simp [h]
theorem eqv_lst (a b : List Int) : PyData.eqv (.list (a.map PyData.int)) (.list (b.map PyData.int)) = decide (a = b) := by
  simp only [PyData.eqv, eqv_ints]
theorem eqv_col (a b : List Int) : PyData.eqv (colD a) (colD b) = decide (a = b) := by
  unfold colD
  simp only [PyData.eqv, eqv_ints]
theorem eqv_colsA : ∀ (a b : List (List Int)), PyData.eqvAll (a.map colD) (b.map colD) = decide (a = b)
  | [], [] => by simp [PyData.eqvAll]
  | [], _ :: _ => by simp [PyData.eqvAll]
  | _ :: _, [] => by simp [PyData.eqvAll]
  | x :: a, y :: b => by
    simp only [List.map_cons, PyData.eqvAll, eqv_col, eqv_colsA a b]
    by_cases h : x = y <;> simp [h]
theorem eqv_cols (a b : List (List Int)) : PyData.eqv (.list (a.map colD)) (.list (b.map colD)) = decide (a = b) := by
  simp only [PyData.eqv, eqv_colsA]
def cellsOf (ns : List Int) : List Int := if ns = [] then [0] else ns.take 63
def deckOf (c : Int) : Deck := if 10 ^ 18 ≤ c then ⟨c - 10 ^ 18, 0, 1⟩ else ⟨0, 0, c % 2147483629 + 2⟩
abbrev cellsPre (K : PySem.W.Frag) : List Int → Hp → Mem → List V → Prop := fun ns G M vs => ∃ v, vs = [v] ∧ Dp K G v (.list (ns.map .int)) ∧ ns.length ≤ 63
abbrev cellsPost (K : PySem.W.Frag) : List Int → Mem → Post := fun ns M => isD K (.list ((cellsOf ns).map .int)) M
abbrev deckPre : Int → Hp → Mem → List V → Prop := fun c G M vs => vs = [.int c]
abbrev deckPost : Int → Mem → Post := fun c M G v M' => ∃ dk, v = .ref dk ∧ M' = M ++ [(dk, (deckOf c).ho)]
/-- a new list of ints, owned, every item known -/
theorem ev_lstI {σ : L2.St} {G : Hp} {M M1 : Mem} {t : TA} {xs : List V} (h : EvA t σ G M (xs.map fun x => fun _ v => v = x) M1) (hl : xs.length ≤ 1000) : Ev (tLst t) σ G M (fun G v M' => ∃ p, v = .ref p ∧ M' = M1 ++ [(p, .lst xs)]) := fun G1 H F e m Q q =>
  h G1 H F e m _ fun vs G2 H2 e2 m2 a => by
    have hv : vs = xs := by
      have : ∀ {xs vs : List V}, AllP G2 (xs.map fun x => fun _ v => v = x) vs → vs = xs := by
        intro xs
        induction xs with
        | nil =>
          intro vs a
          cases vs with
          | nil => rfl
          | cons _ _ => exact a.elim
        | cons x xs ih =>
          intro vs a
          cases vs with
          | nil => exact a.elim
          | cons v vs => rw [a.1, ih a.2]
      exact this a
    subst hv
    exact ⟨Nat.le_of_lt (small1000 hl), fun p hp => q _ _ _ _ e2 (m2.newMid hp) ⟨p, rfl, rfl⟩⟩
theorem cutD_take {ds : List PyData} {n : Nat} : cutD ds none (some (n : Int)) = ds.take n := by
  unfold cutD
  rw [HT.sIx_none, show HT.sIx ds.length ds.length (some (n : Int)) = min n ds.length from HT.sIx_nat _ _ _]
  simp
end SX
namespace SX
open PySem PySem.Spec L2
end SX
set_option Elab.async false
set_option linter.all false
set_option maxRecDepth 100000
namespace SX
open PySem PySem.Spec L2
/-- a list of columns, wherever it stands -/
structure ColsAt (K : PySem.W.Frag) (G : Hp) (M : Mem) (a : Addr) (cs : List (List Int)) : Prop where
  ex : ∃ xs, AtL K G M a xs ∧ DpAll K G xs (cs.map colD)
theorem ColsAt.up {K : PySem.W.Frag} {G G' : Hp} {M : Mem} {a : Addr} {cs : List (List Int)} (h : ColsAt K G M a cs) (e : Ex G G') : ColsAt K G' M a cs := by
  obtain ⟨xs, h1, h2⟩ := h.ex
  exact ⟨xs, h1.ex e, dma h2 e⟩
theorem ColsAt.of {K : PySem.W.Frag} {G : Hp} {M : Mem} {a : Addr} {cs : List (List Int)} (h : Dp K G (.ref a) (.list (cs.map colD))) : ColsAt K G M a cs := by
  obtain ⟨b, xs, e, hs, ha⟩ := dp_lst h
  cases e
  exact ⟨xs, .G hs, ha⟩
abbrev lvPre (K : PySem.W.Frag) : (Int × Addr × List (List Int)) → Hp → Mem → List V → Prop := fun x G M vs => vs = [.int x.1, .ref x.2.1] ∧ ColsAt K G M x.2.1 x.2.2 ∧ (∀ c ∈ x.2.2, -(2 ^ 64) < c.sum ∧ c.sum < 2 ^ 64) ∧ (-(2 ^ 64) < x.1 ∧ x.1 < 2 ^ 64)
abbrev lvPost : (Int × Addr × List (List Int)) → Mem → Post := fun x M => isV (.int (valueOf x.1 x.2.2)) M
theorem sum_lo : ∀ {c : List Int} {b : Int}, (∀ f ∈ c, 0 ≤ f ∧ f < b) → 0 ≤ c.sum ∧ c.sum ≤ c.length * b
  | [], b, _ => by simp
  | f :: c, b, h => by
    have h1 := h f List.mem_cons_self
    have h2 := sum_lo (c := c) fun g hg => h g (List.mem_cons_of_mem _ hg)
    simp only [List.sum_cons, List.length_cons, Int.natCast_add, Int.add_mul]
    omega
theorem GoodSh.sum {b r : Int} {cs : List (List Int)} (h : GoodSh b r cs) : ∀ c ∈ cs, -(2 ^ 64) < c.sum ∧ c.sum < 2 ^ 64 := fun c hc => by
  obtain ⟨h1, h2⟩ := sum_lo (h.col c hc).2
  have h3 := (h.col c hc).1
  have h4 := h.r4
  have h5 := h.b12
  have h6 := h.b2
  have : (c.length : Int) * b ≤ 4 * b := Int.mul_le_mul_of_nonneg_right (by omega) (by omega)
  omega
def drawsD (D : Deck) (b : Int) : Nat → Deck
  | 0 => D
  | n + 1 => dn (drawsD D b n) b
def drawsV (D : Deck) (b : Int) (n : Nat) : List Int := (List.range n).map fun i => dv (drawsD D b i) b
def colOf (D : Deck) (b r : Int) : List Int := if dv D 5 = 1 then List.replicate r.toNat (b - 1) else if dv D 5 = 0 then List.replicate r.toNat 0 else drawsV (dn D 5) b r.toNat
def colDk (D : Deck) (b r : Int) : Deck := drawsD (dn D 5) b r.toNat
abbrev lcolPre : (Addr × Nat × Deck × Int × Int) → Hp → Mem → List V → Prop := fun x G M vs => vs = [.ref x.1, .int x.2.2.2.1, .int x.2.2.2.2] ∧ 0 < x.2.2.2.1 ∧ x.2.2.2.1 < 2 ^ 200 ∧ 0 ≤ x.2.2.2.2 ∧ x.2.2.2.2 ≤ 1000 ∧ M[x.2.1]? = some (x.1, x.2.2.1.ho)
abbrev lcolPost (K : PySem.W.Frag) : (Addr × Nat × Deck × Int × Int) → Mem → Post := fun x M => isD K (colD (colOf x.2.2.1 x.2.2.2.1 x.2.2.2.2)) (M.set x.2.1 (x.1, (colDk x.2.2.1 x.2.2.2.1 x.2.2.2.2).ho))
/-- how many columns, the deck then -/
def manyOf (D : Deck) (most : Int) : Int := if dv (dn D 7) 3 = 0 then dv (dn (dn D 7) 3) (most + 1) else dv D 7
def manyDk (D : Deck) (most : Int) : Deck := if dv (dn D 7) 3 = 0 then dn (dn (dn D 7) 3) (most + 1) else dn (dn D 7) 3
def colsDk (D : Deck) (b r : Int) : Nat → Deck
  | 0 => D
  | n + 1 => colDk (colsDk D b r n) b r
def colsV (D : Deck) (b r : Int) (n : Nat) : List (List Int) := (List.range n).map fun i => colOf (colsDk D b r i) b r
def colsOf (D : Deck) (b r most : Int) : List (List Int) := colsV (manyDk D most) b r (manyOf D most).toNat
def colsEnd (D : Deck) (b r most : Int) : Deck := colsDk (manyDk D most) b r (manyOf D most).toNat
abbrev lcolsPre : (Addr × Nat × Deck × Int × Int × Int) → Hp → Mem → List V → Prop := fun x G M vs => vs = [.ref x.1, .int x.2.2.2.1, .int x.2.2.2.2.1, .int x.2.2.2.2.2] ∧ 0 < x.2.2.2.1 ∧ x.2.2.2.1 < 2 ^ 200 ∧ 0 ≤ x.2.2.2.2.1 ∧ x.2.2.2.2.1 ≤ 1000 ∧ 0 ≤ x.2.2.2.2.2 ∧ x.2.2.2.2.2 ≤ 1000 ∧ M[x.2.1]? = some (x.1, x.2.2.1.ho)
abbrev lcolsPost (K : PySem.W.Frag) : (Addr × Nat × Deck × Int × Int × Int) → Mem → Post := fun x M => own K ((colsOf x.2.2.1 x.2.2.2.1 x.2.2.2.2.1 x.2.2.2.2.2).map colD) (M.set x.2.1 (x.1, (colsEnd x.2.2.1 x.2.2.2.1 x.2.2.2.2.1 x.2.2.2.2.2).ho))
end SX
namespace SX
open PySem PySem.Spec L2
end SX
set_option Elab.async false
set_option linter.all false
set_option maxRecDepth 100000
namespace SX
open PySem PySem.Spec L2
section
variable {E : XK} {K : PySem.W.Frag} {σ : L2.St} {G G' H : Hp} {M M1 M2 M3 F : Mem} {R : Post} {P P' : Po} {te ta tb : TE} {t u : TS} {x y z : V} {i : Nat} {Xc : Value → Option Addr → Hp → Mem → Prop}
/-- an expression that raises, surely -/
def EvR (E : XK) (te : TE) (σ : L2.St) (G : Hp) (M : Mem) (Xc : Value → Option Addr → Hp → Mem → Prop) : Prop := ∀ G1 H F, Ex G G1 → Me G1 (M ++ F) H → (∀ c d G2 M2 H2, Ex G1 G2 → Me G2 (M2 ++ F) H2 → Xc c d G2 M2 → E c d H2) → ∀ Q : VK, te σ H Q
def EvAR (E : XK) (ta : TA) (σ : L2.St) (G : Hp) (M : Mem) (Xc : Value → Option Addr → Hp → Mem → Prop) : Prop := ∀ G1 H F, Ex G G1 → Me G1 (M ++ F) H → (∀ c d G2 M2 H2, Ex G1 G2 → Me G2 (M2 ++ F) H2 → Xc c d G2 M2 → E c d H2) → ∀ Q : List V → Hp → Prop, ta σ H Q
theorem er_one {tr : TA} (h : EvR E te σ G M Xc) : EvAR E (tCons te tr) σ G M Xc := fun G1 H F e m x Q => h G1 H F e m x _
theorem er_lst {tA : TA} (h : EvAR E tA σ G M Xc) : EvR E (tLst tA) σ G M Xc := fun G1 H F e m x Q => h G1 H F e m x _
theorem sv_setR {g : TG} (h : EvR E te σ G M P.ex) : Sv E (tAsg te g) σ G M P := fun G1 H F D e m hd => h G1 H F e m hd.ex _
/-- try: body, except x as n: suite. The body's errors are Xc's, all of them the clause's -/
theorem sv_tryAs {tw : WX → TS} {ts : Addr → Value → Option Addr → TS} {c : Value} {Wout : WX} (Xc : Value → Option Addr → Hp → Mem → Prop) (hB : ∀ W : WX, Sv (fun cls d H => W cls d σ H) (tw W) σ G M { P with ex := Xc })
    (hS : ∀ cls d a G2 M2, Ex G G2 → Xc cls d G2 M2 → PySem.W.exmOne K cls c = some true ∧ Sv E (ts a cls d) (σ.set i (some (.ref a))) G2 M2 { P with nx := fun G3 σ' M3 => P.nx G3 (σ'.set i none) M3, bk := fun G3 σ' M3 => P.bk G3 (σ'.set i none) M3, ct := fun G3 σ' M3 => P.ct G3 (σ'.set i none) M3 }) :
    Sv E (fun D σ H => tw (wAs K c i ts Wout D) D σ H) σ G M P := fun G1 H F D e m hd =>
  hB (wAs K c i ts Wout D) G1 H F D e m ⟨hd.nx, hd.rt, hd.bk, hd.ct, fun cls d G2 M2 H2 e2 m2 xc =>
    ⟨true, (hS cls d 0 G2 M2 (e.trans e2) xc).1, fun _ a _ => (hS cls d a G2 M2 (e.trans e2) xc).2 G2 H2 F _ (Ex.refl _) m2 ⟨fun σ' G3 M3 H3 e3 m3 n => hd.nx _ G3 M3 H3 (e2.trans e3) m3 n, fun v G3 M3 H3 e3 m3 n => hd.rt v G3 M3 H3 (e2.trans e3) m3 n,
      fun σ' G3 M3 H3 e3 m3 n => hd.bk _ G3 M3 H3 (e2.trans e3) m3 n, fun σ' G3 M3 H3 e3 m3 n => hd.ct _ G3 M3 H3 (e2.trans e3) m3 n, fun c' d' G3 M3 H3 e3 m3 n => hd.ex c' d' G3 M3 H3 (e2.trans e3) m3 n⟩, fun z => by cases z⟩⟩
end
/-- isinstance(e, (A, B, ..)) of the error that the suite holds -/
def rIsET (K : PySem.W.Frag) (D a : Addr) : List V → Hp → VK → Prop := fun xs H Q => ∃ (tp : Addr) (cs : List V) (us : List Value) (b : Bool), xs = [.ref a, .ref tp] ∧ H tp = some (.tup cs) ∧ Paired ClsV cs us ∧ PySem.W.kitAny K (.ref D) us = some b ∧ Q (.bl b) H
theorem call_isET {X : Cx} {a D : Addr} {oe : Obj} {pn : List (Addr × Obj)} (C : ExcC X.K D) (hz : Zc (.ref D) none oe) (hf : ∃ vs, oe.data = .fields vs) : CallR (X.suite a ((a, oe) :: pn)) (.builtin "isinstance") (rIsET X.K D a) := by
  intro pins s σ H xs us Q I r h
  obtain ⟨tp, cs, ws, b, rfl, hT, k, e, q⟩ := h
  obtain ⟨u1, u2, rfl, r1, r2⟩ := vals2 r
  cases (show u1 = Value.ref a from r1)
  cases (show u2 = Value.ref tp from r2)
  obtain ⟨hget, _⟩ := I.pin (a, oe) (List.mem_append.mpr (.inl List.mem_cons_self))
  obtain ⟨vs, hv⟩ := hf
  obtain ⟨_, its, rv, o, h1, h2, n, h3⟩ := (show ObjOk X.prog X.w H s.heap tp (.tup cs) from I.hok tp _ hT)
  have e3 := ClsV.all k rv
  subst e3
  have J : PySem.W.InstAt s.heap a oe D none := by
    obtain ⟨oc, od, oda, osl⟩ := oe
    obtain ⟨z1, z2⟩ := hz
    dsimp only at z1 z2 hv
    subst z1 z2 hv
    exact ⟨hget, rfl, rfl, trivial⟩
  obtain ⟨oc, od, dt, sl⟩ := o
  simp only at h2 h3
  subst h2 h3
  exact PySem.W.kia_tup (PySem.W.handS_kitx_exc C.hg C.hk C.hs C.hd C.ha C.hn C.ht C.hm) I.kIn J h1 e (fun z => nomatch z) fun tk => ⟨.bl b, H, I.tok tk, rfl, q⟩
/-- the same, the class and the dict as the suite names them -/
def rIsC (K : PySem.W.Frag) (cls : Value) (d : Option Addr) (a : Addr) : List V → Hp → VK → Prop := fun xs H Q => ∃ D, cls = .ref D ∧ d = none ∧ ExcC K D ∧ rIsE K D a xs H Q
def rIsCT (K : PySem.W.Frag) (cls : Value) (d : Option Addr) (a : Addr) : List V → Hp → VK → Prop := fun xs H Q => ∃ D, cls = .ref D ∧ d = none ∧ ExcC K D ∧ rIsET K D a xs H Q
theorem k_isC {X : Cx} {K : PySem.W.Frag} {a : Addr} {cls : Value} {d : Option Addr} {oe : Obj} {pn : List (Addr × Obj)} (hK : X.K = K) (hz : Zc cls d oe) (hf : ∃ vs, oe.data = .fields vs) : CallR (X.suite a ((a, oe) :: pn)) (.builtin "isinstance") (rIsC K cls d a) := by
  subst hK
  intro pins s σ H xs us Q I r h
  obtain ⟨D, rfl, rfl, hC, h⟩ := h
  exact call_isE hC hz hf pins s σ H xs us Q I r h
theorem k_isCT {X : Cx} {K : PySem.W.Frag} {a : Addr} {cls : Value} {d : Option Addr} {oe : Obj} {pn : List (Addr × Obj)} (hK : X.K = K) (hz : Zc cls d oe) (hf : ∃ vs, oe.data = .fields vs) : CallR (X.suite a ((a, oe) :: pn)) (.builtin "isinstance") (rIsCT K cls d a) := by
  subst hK
  intro pins s σ H xs us Q I r h
  obtain ⟨D, rfl, rfl, hC, h⟩ := h
  exact call_isET hC hz hf pins s σ H xs us Q I r h
section
variable {K : PySem.W.Frag} {σ : L2.St} {G : Hp} {M M1 : Mem} {ta : TE} {a D : Addr} {b : Bool}
theorem own_rel {C : Addr} : ∀ u, RelV (.ref C) u → u = .ref C := fun u h => h
theorem ty_rel {n : String} : ∀ u, RelV (.ty n) u → u = .type n := fun u h => h
theorem cls_paired : ∀ (cs : List Addr), Paired ClsV (cs.map V.ref) (cs.map Value.ref)
  | [] => .nil
  | c :: cs => .cons (.own c) (cls_paired cs)
end
end SX
set_option Elab.async false
set_option linter.all false
set_option maxRecDepth 100000
namespace SX
open PySem PySem.Spec L2
end SX
namespace SX
open PySem PySem.Spec L2
/-- a + b of two lists, wherever they stand -/
def rCatS (K : PySem.W.Frag) : R2 := fun x y H Q => ∃ l b xs zs, x = .ref l ∧ y = .ref b ∧ SqL K H l xs ∧ SqL K H b zs ∧ xs.length + zs.length ≤ sizeLine ∧ ∀ p, H p = none → Q (.ref p) (upd H p (.lst (xs ++ zs)))
theorem op_catS {X : Cx} : OpR X (binaryOp .Add) (rCatS X.K) := by
  intro pins s σ H x y v u Q I rx ry h
  obtain ⟨l, b, xs, zs, rfl, rfl, hl, hb, hz, q⟩ := h
  cases (show v = Value.ref l from rx)
  cases (show u = Value.ref b from ry)
  obtain ⟨its, r, ⟨o, n, eo, oc, od, oda⟩, z1⟩ := I.list hl
  obtain ⟨its2, r2, ⟨o2, n2, eo2, oc2, od2, oda2⟩, z2⟩ := I.list hb
  obtain ⟨c1, d1, dt1, s1⟩ := o
  obtain ⟨c2, d2, dt2, s2⟩ := o2
  dsimp only at oc od oda oc2 od2 oda2
  subst oc od oda oc2 od2 oda2
  have sz : its.toArray.size + its2.toArray.size ≤ sizeLine := by rw [List.size_toArray, List.size_toArray, ← r.length, ← r2.length]; exact hz
  refine PySem.concat_meets ⟨_, eo, rfl⟩ ⟨_, eo2, rfl⟩ PySem.noFill_list_add PySem.seq_list_add PySem.F.slot_list_add PySem.F.entry_list_add (PySem.F.args_list_add_2 _ _) (PyProof.Rows.list_addW l b its.toArray its2.toArray n n2 none none s1 s2 sz) ⟨eo, eo2, ?_⟩
  have ea : its.toArray ++ its2.toArray = (its ++ its2).toArray := by simp
  rw [ea]
  exact ⟨.ref _, _, I.lnew (t' := s.toks) (r.append r2) (by rw [List.length_append]; exact hz), rfl, q _ I.fresh⟩
theorem k_cat {X : Cx} {K : PySem.W.Frag} (hK : X.K = K) : OpR X (binaryOp .Add) (rCatS K) := hK ▸ op_catS
section
variable {K : PySem.W.Frag} {σ : L2.St} {G : Hp} {M M1 : Mem} {ta tb te : TE} {ds es : List PyData} {p q C : Addr} {xs ys : List V} {E : XK} {b r : Int} {cs : List (List Int)}
/-- isinstance(o, C), o an instance of C -/
structure IsCls (K : PySem.W.Frag) (C : Addr) : Prop where
  ha : PySem.W.findIn K (.ref C) "__class__" = some (some (.builtin "object.__class__"))
  hn : PySem.W.specialIn K (.builtin "object.__class__") "__get__" = some (some (.builtin "getset_descriptor.__get__"))
  ht : PySem.W.takesIn K (.builtin "object.__class__") = some true
  hm : PySem.W.mroIn K C (.type "object") = some true
end
end SX
set_option Elab.async false
set_option linter.all false
set_option maxRecDepth 100000
namespace SX
open PySem PySem.Spec L2
theorem k_gtup {X : Cx} {K : PySem.W.Frag} {pos : Pos} {es : List Expr} {k : Nat} {t : TGs} {n : Nat} (hK : X.K = K) (hc : X.calm = true) (h : PGs X es t)
    (hn : (assignEach es X.env).length = n := by rfl) (hst : (assignEach es X.env).findIdx? (·.1) = none := by rfl) : PG X (.Tuple es k pos) (gTup K n t) := hK ▸ pg_tup hc h hn hst
section
variable {E : XK} {K : PySem.W.Frag} {σ : L2.St} {G G' H : Hp} {M M1 M2 M3 F : Mem} {R : Post} {P P' : Po} {te ta tb : TE} {tt tu : TT} {t u : TS} {x y z v : V} {d e : PyData} {ds : List PyData} {a b : Bool} {P1 P2 : Hp → V → Prop} {C : Addr} {Ps : List (Hp → V → Prop)}
/-- a sheet that stands still -/
def ShFz (K : PySem.W.Frag) (C : Addr) (b r : Int) (cs : List (List Int)) (G : Hp) (v : V) : Prop := ∃ p dx l xs, v = .ref p ∧ G p = some (.ins C dx (shF (.int b) (.int r) (.ref l))) ∧ SqL K G l xs ∧ DpAll K G xs (cs.map colD)
instance {b r : Int} {cs : List (List Int)} : Mono (ShFz K C b r cs) := ⟨fun G G' v e h => by
  obtain ⟨p, dx, l, xs, h1, h2, h3, h4⟩ := h
  exact ⟨p, dx, l, xs, h1, e _ _ h2, ex_l e h3, dma h4 e⟩⟩
theorem ShFz.at_ {b r : Int} {cs : List (List Int)} (h : ShFz K C b r cs G v) : ∃ p, v = .ref p ∧ ∀ M, ShAt K C G M p b r cs := by
  obtain ⟨p, dx, l, xs, h1, h2, h3, h4⟩ := h
  exact ⟨p, h1, fun M => ⟨dx, l, xs, .G h2, .G h3, h4⟩⟩
/-- the pairs of a sheet and its due columns -/
def OthF (K : PySem.W.Frag) (os : List (Addr × List (List Int))) (G : Hp) (v : V) : Prop := ∃ oa ws, v = .ref oa ∧ ws.length ≤ 1000 ∧ SqL K G oa ws ∧ ∀ (i : Nat) x, ws[i]? = some x → ∃ t q c cs', x = .ref t ∧ SqT K G t [.ref q, c] ∧ Dp K G c (.list (cs'.map colD)) ∧ (q, cs') ∈ os
instance {os : List (Addr × List (List Int))} : Mono (OthF K os) := ⟨fun G G' v e h => by
  obtain ⟨oa, ws, h1, h2, h3, h4⟩ := h
  refine ⟨oa, ws, h1, h2, ex_l e h3, fun i x hx => ?_⟩
  obtain ⟨t, q, c, cs', k1, k2, k3, k4⟩ := h4 i x hx
  exact ⟨t, q, c, cs', k1, ex_t e k2, dm k3 e, k4⟩⟩
end
end SX
namespace SX
open PySem PySem.Spec L2
abbrev powPre : (Int × Nat) → Hp → Mem → List V → Prop := fun x G M vs => vs = [.int x.1, .int (x.2 : Int)] ∧ (-(2 ^ 64) < x.1 ∧ x.1 < 2 ^ 64) ∧ x.2 ≤ 100000
abbrev powPost : (Int × Nat) → Mem → Post := fun x M => isV (.int (x.1 ^ x.2)) M
end SX
namespace SX
open PySem PySem.Spec L2
end SX
namespace SX
open PySem PySem.Spec L2
section
variable {K : PySem.W.Frag} {C : Addr} {σ : L2.St} {G : Hp} {M M1 M2 M3 M4 : Mem} {tA : TA} {E : XK} {ta tb tc td te tf : TE}
theorem allP2 {P1 P2 : Hp → V → Prop} : ∀ {vs : List V}, AllP G [P1, P2] vs → ∃ v w, vs = [v, w] ∧ P1 G v ∧ P2 G w
  | [v, w], ⟨a, b, _⟩ => ⟨v, w, rfl, a, b⟩
theorem allP3 {P1 P2 P3 : Hp → V → Prop} : ∀ {vs : List V}, AllP G [P1, P2, P3] vs → ∃ v w u, vs = [v, w, u] ∧ P1 G v ∧ P2 G w ∧ P3 G u
  | [v, w, u], ⟨a, b, c, _⟩ => ⟨v, w, u, rfl, a, b, c⟩
/-- (sheet, due columns) -/
def PrF (K : PySem.W.Frag) (q : Addr) (cs : List (List Int)) (G : Hp) (v : V) : Prop := ∃ t c, v = .ref t ∧ SqT K G t [.ref q, c] ∧ Dp K G c (.list (cs.map colD))
instance {q : Addr} {cs : List (List Int)} : Mono (PrF K q cs) := ⟨fun G G' v e h => by
  obtain ⟨t, c, h1, h2, h3⟩ := h
  exact ⟨t, c, h1, ex_t e h2, dm h3 e⟩⟩
end
end SX
namespace SX
open PySem PySem.Spec L2
end SX
set_option Elab.async false
set_option linter.all false
set_option maxRecDepth 100000
namespace SX
open PySem PySem.Spec L2
theorem k_slA {X : Cx} {K : PySem.W.Frag} (hK : X.K = K) : SlR X (rSlA K) := hK ▸ sl_tupA
section
variable {E : XK} {K : PySem.W.Frag} {σ : L2.St} {G G' H : Hp} {M M1 M2 M3 F : Mem} {R : Post} {P P' : Po} {te ta tb : TE} {tt tu : TT} {t u : TS} {x y z v : V} {d e : PyData} {ds es : List PyData} {a b : Bool} {P1 P2 : Hp → V → Prop} {C : Addr} {Ps : List (Hp → V → Prop)}
theorem dpa_set : ∀ {xs : List V} {ds : List PyData} {i : Nat}, DpAll K G xs ds → Dp K G x d → DpAll K G (xs.set i x) (ds.set i d)
  | _, [], _, h, _ => by cases h; exact .nil
  | _, e :: ds, 0, h, hd => by
    cases h with
    | cons _ h2 => exact .cons hd h2
  | _, e :: ds, i + 1, h, hd => by
    cases h with
    | cons h1 h2 => exact .cons h1 (dpa_set (i := i) h2 hd)
theorem ev_catT (h1 : Ev ta σ G M (isD K (.tuple ds) M1)) (h2 : Ev tb σ G M1 (isD K (.tuple es) M2)) (hl : ds.length + es.length ≤ 100000) : Ev (tOp (rCatA K) ta tb) σ G M (isD K (.tuple (ds ++ es)) M2) :=
  ev_op h1 h2 fun G1 H F x' y' ex m p1 p2 Q k => by
    obtain ⟨p, xs, rfl, hx, dx⟩ := dp_tup p1
    obtain ⟨q, ys, rfl, hy, dy⟩ := dp_tup p2
    refine ⟨p, q, xs, ys, rfl, rfl, ex_t m.ex hx, ex_t m.ex hy, ?_, fun z => ?_, fun _ z => ?_, fun _ _ l hl => ?_⟩
    · rw [dpa_len dx, dpa_len dy]
      exact Nat.le_of_lt (sz_ok hl)
    · subst z
      have : ds = [] := List.length_eq_zero_iff.mp (by rw [← dpa_len dx]; rfl)
      subst this
      exact k _ G1 _ _ (Ex.refl _) m ⟨p2, rfl⟩
    · subst z
      have : es = [] := List.length_eq_zero_iff.mp (by rw [← dpa_len dy]; rfl)
      subst this
      rw [List.append_nil] at k
      exact k _ G1 _ _ (Ex.refl _) m ⟨p1, rfl⟩
    · have g1 := m.free hl
      exact k _ _ _ _ (Ex.new g1) (m.newF hl) ⟨.tup (SqT.of upd_same) (dma (dpa_app dx dy) (Ex.new g1)), rfl⟩
theorem ev_slT {tl th : TO} {lo hi : Option Int} (h : Ev te σ G M (isD K (.tuple ds) M1)) (hl : EvO tl σ G M1 lo M1) (hh : EvO th σ G M1 hi M1) : Ev (tSl (rSlA K) te tl th) σ G M (isD K (.tuple (cutD ds lo hi)) M1) := fun G1 H F e m Q q =>
  h G1 H F e m _ fun v G2 M2 H2 e2 m2 r => by
    obtain ⟨dv, rfl⟩ := r
    refine hl G2 H2 F (e.trans e2) m2 _ fun G3 H3 e3 m3 => hh G3 H3 F ((e.trans e2).trans e3) m3 _ fun G4 H4 e4 m4 => ?_
    obtain ⟨a, xs, rfl, hs, ha⟩ := dp_tup (dm dv (e3.trans e4))
    refine ⟨a, xs, rfl, ex_t m4.ex hs, fun z => ?_, fun _ p hp => ?_⟩
    · have hc : cutD ds lo hi = ds := by
        unfold cutD
        rw [← dpa_len ha, z.1, z.2, List.drop_zero, Nat.sub_zero, List.take_of_length_le (by rw [dpa_len ha]; exact Nat.le_refl _)]
      rw [hc] at q
      exact q _ G4 _ _ ((e2.trans e3).trans e4) m4 ⟨.tup hs ha, rfl⟩
    · have g1 := m4.free hp
      exact q _ _ _ _ (((e2.trans e3).trans e4).trans (Ex.new g1)) (m4.newF hp) ⟨.tup (SqT.of upd_same) (dma (dpa_cut ha lo hi) (Ex.new g1)), rfl⟩
/-- what is owned and not needed is forgotten -/
theorem sv_sub {M' : Mem} (hs : M'.Sublist M) (h : Sv E t σ G M' P) : Sv E t σ G M P := fun G1 H F D e m hd => h G1 H F D e (m.sub (hs.append_right F)) hd
end
end SX
namespace SX
open PySem PySem.Spec L2
section
variable {K : PySem.W.Frag} {C : Addr} {σ : L2.St} {G G' : Hp} {M M1 M2 Mx : Mem} {P : Po} {tA : TA} {E : XK} {ta tb tc td te tf : TE} {t u : TS}
theorem allP4 {P1 P2 P3 P4 : Hp → V → Prop} : ∀ {vs : List V}, AllP G [P1, P2, P3, P4] vs → ∃ v w u x, vs = [v, w, u, x] ∧ P1 G v ∧ P2 G w ∧ P3 G u ∧ P4 G x
  | [v, w, u, x], ⟨a, b, c, d, _⟩ => ⟨v, w, u, x, rfl, a, b, c, d⟩
def mem9 (L A : Nat → Addr) (X Z : Nat → List V) (hl : Addr) (hs : List V) : Mem := [(L 0, .lst (X 0)), (L 1, .lst (X 1)), (L 2, .lst (X 2)), (L 3, .lst (X 3)), (A 0, .lst (Z 0)), (A 1, .lst (Z 1)), (A 2, .lst (Z 2)), (A 3, .lst (Z 3)), (hl, .lst hs)]
def up {α : Type} (f : Nat → α) (k : Nat) (v : α) : Nat → α := fun j => if j = k then v else f j
variable {L A : Nat → Addr} {X Z : Nat → List V} {hl : Addr} {hs y : List V} {k : Nat}
theorem mem9_X (h : k < 4) : (mem9 L A X Z hl hs ++ Mx)[k]? = some (L k, .lst (X k)) := by
  match k, h with
  | 0, _ => rfl
  | 1, _ => rfl
  | 2, _ => rfl
  | 3, _ => rfl
theorem mem9_Z (h : k < 4) : (mem9 L A X Z hl hs ++ Mx)[4 + k]? = some (A k, .lst (Z k)) := by
  match k, h with
  | 0, _ => rfl
  | 1, _ => rfl
  | 2, _ => rfl
  | 3, _ => rfl
theorem up_same {α : Type} {f : Nat → α} {k : Nat} {v : α} : up f k v k = v := if_pos rfl
theorem up_ne {α : Type} {f : Nat → α} {k j : Nat} {v : α} (h : j ≠ k) : up f k v j = f j := if_neg h
/-- four sheets, their due columns, what was held -/
structure St9 (K : PySem.W.Frag) (C : Addr) (b r : Int) (many : Nat) (P dx L : Nat → Addr) (X Z : Nat → List V) (CS : Nat → List (List Int)) (hs : List V) (G : Hp) : Prop where
  sh : ∀ k, k < 4 → G (P k) = some (.ins C (dx k) (shF (.int b) (.int r) (.ref (L k))))
  dX : ∀ k, k < 4 → DpAll K G (X k) ((CS k).map colD)
  dZ : ∀ k, k < 4 → DpAll K G (Z k) ((CS k).map colD)
  g : ∀ k, k < 4 → GoodSh b r (CS k) ∧ (CS k).length = many
  h : ∀ x ∈ hs, ∃ t f d cs, x = .ref t ∧ SqT K G t [f, d] ∧ Dp K G f (.list (cs.map colD)) ∧ Dp K G d (.list (cs.map colD)) ∧ GoodSh b r cs
theorem St9.up {b r : Int} {many : Nat} {P dx : Nat → Addr} {CS : Nat → List (List Int)} (h : St9 K C b r many P dx L X Z CS hs G) (e : Ex G G') : St9 K C b r many P dx L X Z CS hs G' :=
  ⟨fun k hk => e _ _ (h.sh k hk), fun k hk => dma (h.dX k hk) e, fun k hk => dma (h.dZ k hk) e, h.g, fun x hx => by
    obtain ⟨t, f, d, cs, h1, h2, h3, h4, h5⟩ := h.h x hx
    exact ⟨t, f, d, cs, h1, ex_t e h2, dm h3 e, dm h4 e, h5⟩⟩
theorem St9.at_ {b r : Int} {many : Nat} {P dx : Nat → Addr} {CS : Nat → List (List Int)} (h : St9 K C b r many P dx L X Z CS hs G) (Mx : Mem) (k : Nat) (hk : k < 4) : ShAt K C G (mem9 L A X Z hl hs ++ Mx) (P k) b r (CS k) ∧ ColsAt K G (mem9 L A X Z hl hs ++ Mx) (A k) (CS k) ∧ GoodSh b r (CS k) :=
  ⟨⟨dx k, L k, X k, .G (h.sh k hk), .M (mem9_X hk), h.dX k hk⟩, ⟨Z k, .M (mem9_Z hk), h.dZ k hk⟩, (h.g k hk).1⟩
/-- a column set in one of them, in its due columns too -/
theorem St9.set {b r : Int} {many : Nat} {P dx : Nat → Addr} {CS : Nat → List (List Int)} (h : St9 K C b r many P dx L X Z CS hs G) {w j : Nat} {c : List Int} {y z : V} (hc : GoodCol b r c) (hy : Dp K G y (colD c)) (hz : Dp K G z (colD c)) :
    St9 K C b r many P dx L (SX.up X w ((X w).set j y)) (SX.up Z w ((Z w).set j z)) (SX.up CS w ((CS w).set j c)) hs G := by
  refine ⟨h.sh, fun k hk => ?_, fun k hk => ?_, fun k hk => ?_, h.h⟩
  · by_cases e : k = w
    · subst e
      rw [up_same, up_same, List.map_set]
      exact dpa_set (h.dX k hk) hy
    · rw [up_ne e, up_ne e]
      exact h.dX k hk
  · by_cases e : k = w
    · subst e
      rw [up_same, up_same, List.map_set]
      exact dpa_set (h.dZ k hk) hz
    · rw [up_ne e, up_ne e]
      exact h.dZ k hk
  · by_cases e : k = w
    · subst e
      rw [up_same]
      obtain ⟨g, hn⟩ := h.g k hk
      exact ⟨⟨g.b2, g.b12, g.r1, g.r4, by rw [List.length_set]; exact g.len, fun c' hc' => (List.mem_or_eq_of_mem_set hc').elim (g.col c') fun e => e ▸ hc⟩, by rw [List.length_set]; exact hn⟩
    · rw [up_ne e]
      exact h.g k hk
end
end SX
namespace SX
open PySem PySem.Spec L2
end SX
set_option Elab.async false
set_option linter.all false
set_option maxRecDepth 100000
namespace SX
open PySem PySem.Spec L2
end SX
namespace PySem.W
open PySem PySem.Calls PyProof.Rows
end PySem.W
namespace SX
open PySem PySem.Spec L2
section
variable {X : Cx} {CX : CXT} {k : Nat} {C D f : Addr} {fd : FuncData} {ps : List Str} {sp : Sp} {E : XK}
/-- one op other, of two own classes -/
def rBin2 (C D : Addr) (sp : Sp) (E : XK) : R2 := fun x y H Q => ∃ a dx fs b dy gs, x = .ref a ∧ y = .ref b ∧ H a = some (.ins C dx fs) ∧ H b = some (.ins D dy gs) ∧ sp [.ref a, .ref b] H Q E
end
def wrF (b l last : V) : List (Str × V) := putF "_last" last (putF "_figures" l (putF "_base" b []))
theorem wrF_no {b r l : V} {m : Str} (h1 : ¬ m = "_base") (h2 : ¬ m = "_figures") (h3 : ¬ m = "_last") : (wrF b l r).lookup m = none := by
  unfold wrF
  rw [lookup_putF, if_neg h3, lookup_putF, if_neg h2, lookup_putF, if_neg h1]
  rfl
/-- a result that stands still -/
def WrG (K : PySem.W.Frag) (C : Addr) (p : Addr) (b : Int) (figs : List Int) (last : Int) (G : Hp) : Prop := ∃ dx l xs, G p = some (.ins C dx (wrF (.int b) (.ref l) (.int last))) ∧ SqL K G l xs ∧ DpAll K G xs (figs.map .int)
theorem WrG.up {K : PySem.W.Frag} {C p : Addr} {b last : Int} {figs : List Int} {G G' : Hp} (h : WrG K C p b figs last G) (e : Ex G G') : WrG K C p b figs last G' := by
  obtain ⟨dx, l, xs, h1, h2, h3⟩ := h
  exact ⟨dx, l, xs, e _ _ h1, ex_l e h2, dma h3 e⟩
def WrFz (K : PySem.W.Frag) (C : Addr) (b : Int) (figs : List Int) (last : Int) (G : Hp) (v : V) : Prop := ∃ p, v = .ref p ∧ WrG K C p b figs last G
instance {K : PySem.W.Frag} {C : Addr} {b last : Int} {figs : List Int} : Mono (WrFz K C b figs last) := ⟨fun G G' v e h => by
  obtain ⟨p, h1, h2⟩ := h
  exact ⟨p, h1, h2.up e⟩⟩
abbrev wrPre (K : PySem.W.Frag) (C : Addr) : (Addr × Int × List Int × Int) → Hp → Mem → List V → Prop := fun x G M vs => vs = [.ref x.1] ∧ WrG K C x.1 x.2.1 x.2.2.1 x.2.2.2 G
abbrev wrGPre (K : PySem.W.Frag) (C : Addr) : (Addr × Int × List Int × Int) → Hp → Mem → List V → Prop := fun x G M vs => wrPre K C x G M vs ∧ (-(2 ^ 64) < x.2.1 ∧ x.2.1 < 2 ^ 64)
/-- made: x = (p, dx, base, figures, last); the figures may be owned -/
abbrev mkWrPre (K : PySem.W.Frag) (C : Addr) : (Addr × Addr × Int × List Int × Int) → Hp → Mem → List V → Prop := fun x G M vs => ∃ v M0, vs = [.ref x.1, .int x.2.2.1, v, .int x.2.2.2.2] ∧ M = M0 ++ [(x.1, .ins C x.2.1 [])] ∧ Dt K G M0 v (.list (x.2.2.2.1.map .int))
abbrev mkWrPost (K : PySem.W.Frag) (C : Addr) : (Addr × Addr × Int × List Int × Int) → Mem → Post := fun x M G v M' => v = .non ∧ ∃ l xs M0, M = M0 ++ [(x.1, .ins C x.2.1 [])] ∧ M' = M0 ++ [(x.1, .ins C x.2.1 (wrF (.int x.2.2.1) (.ref l) (.int x.2.2.2.2))), (l, .lst xs)] ∧ DpAll K G xs (x.2.2.2.1.map .int)
theorem ev_mkWr {K : PySem.W.Frag} {σ : L2.St} {G : Hp} {M M1 : Mem} {tA : TA} {E : XK} {C : Addr} {b last : Int} {figs : List Int} {Pv : Hp → V → Prop} (h : EvA tA σ G M [fun _ v => v = .int b, Pv, fun _ v => v = .int last] M1) (hd : ∀ G1 v, Ex G G1 → Pv G1 v → Dt K G1 M1 v (.list (figs.map .int))) :
    Ev (tMake C (spec (mkWrPre K C) (mkWrPost K C)) [] E tA) σ G M (isP (WrFz K C b figs last) M1) := by
  have h0 := ev_make (E := E) (C := C) (pre := mkWrPre K C) (post := mkWrPost K C) (R := fun G1 v M' => ∃ p dx l xs, v = .ref p ∧ M' = M1 ++ [(p, .ins C dx (wrF (.int b) (.ref l) (.int last))), (l, .lst xs)] ∧ DpAll K G1 xs (figs.map .int)) (fun p dx => (p, dx, b, figs, last)) h
    (fun G1 p dx vs e q => by
      obtain ⟨v1, v2, v3, rfl, p1, p2, p3⟩ := allP3 q
      subst p1 p3
      exact ⟨v2, M1, rfl, rfl, hd G1 v2 e p2⟩)
    (fun G1 p dx v M2 e q => by
      obtain ⟨rfl, l, xs, M0, e0, rfl, dd⟩ := q
      have := List.append_cancel_right e0
      subst this
      exact ⟨rfl, p, dx, l, xs, rfl, rfl, dd⟩)
  intro G1 H F e m Q q
  refine h0 G1 H F e m Q fun v G2 M2 H2 e2 m2 r2 => ?_
  obtain ⟨p, dx, l, xs, rfl, rfl, dd⟩ := r2
  have e0 : M1 ++ [(p, HO.ins C dx (wrF (.int b) (.ref l) (.int last))), (l, .lst xs)] = (M1 ++ [(p, HO.ins C dx (wrF (.int b) (.ref l) (.int last)))]) ++ [(l, .lst xs)] := by simp
  rw [e0] at m2
  obtain ⟨m3, e3⟩ := m2.freezeLast
  obtain ⟨m4, e4⟩ := m3.freezeLast
  exact q _ _ M1 H2 ((e2.trans e3).trans e4) m4 ⟨⟨p, rfl, dx, l, xs, upd_same, SqL.of (e4 _ _ upd_same), dma dd (e3.trans e4)⟩, rfl⟩
end SX
namespace SX
open PySem PySem.Spec L2
abbrev restPre (K : PySem.W.Frag) (C : Addr) : ((Addr × Int × List Int × Int) × Int) → Hp → Mem → List V → Prop := fun x G M vs => vs = [.ref x.1.1, .int x.2] ∧ WrG K C x.1.1 x.1.2.1 x.1.2.2.1 x.1.2.2.2 G ∧ (-(2 ^ 64) < x.1.2.1 ∧ x.1.2.1 < 2 ^ 64) ∧ 0 < x.2
abbrev restPost : ((Addr × Int × List Int × Int) × Int) → Mem → Post := fun x M => isV (.int (horner x.1.2.1 x.1.2.2.1 x.1.2.2.2 % x.2)) M
end SX
namespace SX
open PySem PySem.Spec L2
abbrev wsubPre (K : PySem.W.Frag) (C D : Addr) : ((Addr × Int × List Int × Int) × (Addr × Int × Int × List (List Int))) → Hp → Mem → List V → Prop := fun x G M vs => vs = [.ref x.1.1, .ref x.2.1] ∧ WrG K C x.1.1 x.1.2.1 x.1.2.2.1 x.1.2.2.2 G ∧ ShAt K D G M x.2.1 x.2.2.1 x.2.2.2.1 x.2.2.2.2 ∧ (-(2 ^ 64) < x.1.2.1 ∧ x.1.2.1 < 2 ^ 64) ∧ (-(2 ^ 64) < x.2.2.1 ∧ x.2.2.1 < 2 ^ 64) ∧ x.2.2.2.2.length ≤ 100000
abbrev wsubPost : ((Addr × Int × List Int × Int) × (Addr × Int × Int × List (List Int))) → Mem → Post := fun x M => isV (.int (horner x.1.2.1 x.1.2.2.1 x.1.2.2.2 - valueOf x.2.2.1 x.2.2.2.2)) M
abbrev weqPre (K : PySem.W.Frag) (C : Addr) : ((Addr × Int × List Int × Int) × (Addr × Int × List Int × Int)) → Hp → Mem → List V → Prop := fun x G M vs => vs = [.ref x.1.1, .ref x.2.1] ∧ WrG K C x.1.1 x.1.2.1 x.1.2.2.1 x.1.2.2.2 G ∧ WrG K C x.2.1 x.2.2.1 x.2.2.2.1 x.2.2.2.2 G
abbrev weqPost : ((Addr × Int × List Int × Int) × (Addr × Int × List Int × Int)) → Mem → Post := fun x M => isV (.bl (decide (x.1.2 = x.2.2))) M
end SX
namespace SX
open PySem PySem.Spec L2
end SX
namespace SX
open PySem PySem.Spec L2
end SX
set_option Elab.async false
set_option linter.all false
set_option maxRecDepth 100000
namespace SX
open PySem PySem.Spec L2
/-- where a sheet stands in the order -/
def placeD (b r : Int) (cs : List (List Int)) : PyData := .tuple [.int b, .int r, .int (cs.length : Int), .list (cs.map colD)]
end SX
namespace SX
open PySem PySem.Spec L2
section
variable {K : PySem.W.Frag} {σ : L2.St} {G : Hp} {M M1 M2 : Mem} {ta tb : TE} {E : XK} {C : Addr}
/-- the tuple that is compared -/
def PlF (l : Addr) (n : Nat) (b r : Int) (G : Hp) (v : V) : Prop := ∃ t, v = .ref t ∧ G t = some (.tup [.int b, .int r, .int (n : Int), .ref l])
instance {l : Addr} {n : Nat} {b r : Int} : Mono (PlF l n b r) := ⟨fun G G' v e h => by
  obtain ⟨t, h1, h2⟩ := h
  exact ⟨t, h1, e _ _ h2⟩⟩
/-- two sheets compared -/
abbrev cmpPre (K : PySem.W.Frag) (C : Addr) : ((Addr × Int × Int × List (List Int)) × (Addr × Int × Int × List (List Int))) → Hp → Mem → List V → Prop := fun x G M vs => vs = [.ref x.1.1, .ref x.2.1] ∧ ShAt K C G M x.1.1 x.1.2.1 x.1.2.2.1 x.1.2.2.2 ∧ ShAt K C G M x.2.1 x.2.2.1 x.2.2.2.1 x.2.2.2.2
abbrev cmpPost (f : PyData → PyData → Bool) : ((Addr × Int × Int × List (List Int)) × (Addr × Int × Int × List (List Int))) → Mem → Post := fun x M => isV (.bl (f (placeD x.1.2.1 x.1.2.2.1 x.1.2.2.2) (placeD x.2.2.1 x.2.2.2.1 x.2.2.2.2))) M
end
end SX
namespace SX
open PySem PySem.Spec L2
end SX
namespace SX
open PySem PySem.Spec L2
end SX
namespace SX
open PySem PySem.Spec L2
end SX
namespace SX
open PySem PySem.Spec L2
end SX
set_option Elab.async false
set_option linter.all false
set_option maxRecDepth 100000
namespace SX
open PySem PySem.Spec L2 PyProof.Rows
/-- what a set asks of what it may take -/
structure Elem (P : Program) (w : World) (κ : Type) [DecidableEq κ] where
  is : Heap → κ → Addr → Prop
  code : κ → Int
  toks : κ → Nat
  eqB : ∀ {A : Around} {E : Value → Shared → Prop} {s : Shared} {x y : κ} {a b : Addr} {Q : Bool → Shared → Prop}, A.units < cLine → is s.heap x a → is s.heap y b → Q (decide (x = y)) s → wpAny (model P w) A (eqBool (.ref a) (.ref b)) Q E s
  hash : ∀ {A : Around} {E : Value → Shared → Prop} {s : Shared} {x : κ} {a : Addr} {Q : Int → Shared → Prop}, A.units < cLine → is s.heap x a → Q (code x) { s with toks := s.toks + toks x } → wpAny (model P w) A (pyHash (.ref a)) Q E s
  quiet : ∀ {A : Around} {E : Value → Shared → Prop} {s : Shared} {x : κ} {a : Addr} {Q : Bool → Shared → Prop}, is s.heap x a → Q true s → wpAny (model P w) A (eqIsQuiet 8 (.ref a)) Q E s
  noCls : ∀ {A : Around} {E : Value → Shared → Prop} {s : Shared} {x : κ} {a : Addr} {Q : Bool → Shared → Prop}, is s.heap x a → Q false s → wpAny (model P w) A (ofAClassStatement 8 (.ref a)) Q E s
  byVal : ∀ {A : Around} {E : Value → Shared → Prop} {s : Shared} {x : κ} {a : Addr} {Q : Bool → Shared → Prop}, is s.heap x a → (∀ b, Q b s) → wpAny (model P w) A (hashByValue 8 (.ref a)) Q E s
  but : ∀ {h h' : Heap} {x : κ} {b a : Addr} {o : Obj} {es : Array (Int × Value)} {ep : Nat} {t : SetTable}, is h x b → h.get? a = some o → o.data = .set es ep t → Heap.SameBut a h h' → is h' x b
  keep : ∀ {h h' : Heap} {x : κ} {b : Addr}, is h x b → (∀ c o, h.get? c = some o → h'.get? c = some o) → is h' x b
section
variable {P : Program} {w : World} {κ : Type} [DecidableEq κ] (e : Elem P w κ) {A : Around} {E : Value → Shared → Prop} {s : Shared} {a : Addr} {L : List (Addr × κ)} {es : Array (Int × Value)} {ep : Nat} {t : SetTable}
def codes (L : List (Addr × κ)) : List Int := L.map fun p => e.code p.2
def entries (L : List (Addr × κ)) : List (Int × Value) := L.map fun p => (e.code p.2, Value.ref p.1)
/-- at a: a set that has just these -/
structure SetE (h : Heap) (a : Addr) (L : List (Addr × κ)) (es : Array (Int × Value)) (ep : Nat) (t : SetTable) : Prop where
  obj : ∃ o, h.get? a = some o ∧ o.ExactSet ∧ o.data = .set es ep t
  ent : es.toList = entries e L
  tab : TabOk t (codes e L)
  dif : (L.map (·.2)).Nodup
  mem : ∀ p ∈ L, e.is h p.2 p.1
  led : w.params.followText "set-order" = true ∨ t.led = true
  gap : 5 * L.length < 3 * t.mask
  few : L.length ≤ 60
variable {e}
theorem SetE.row (R : SetE e s.heap a L es ep t) {i : Nat} {p : Addr × κ} (h : L[i]? = some p) : es[i]? = some (e.code p.2, Value.ref p.1) := by
  have h2 : es.toList[i]? = some (e.code p.2, Value.ref p.1) := by rw [R.ent, entries, List.getElem?_map, h]; rfl
  simpa using h2
end
end SX
namespace SX
open PySem PySem.Spec L2 PyProof.Rows
end SX
namespace SX
open PySem PySem.Spec L2 PyProof.Rows
section
variable {P : Program} {w : World} {κ : Type} [DecidableEq κ] {e : Elem P w κ} {A : Around} {E : Value → Shared → Prop} {s : Shared}
/-- what is taken of the first i -/
def Tkn (ks : List (Addr × κ)) (i : Nat) (L : List (Addr × κ)) : Prop := (∀ p ∈ L, p ∈ ks.take i) ∧ (∀ p ∈ ks.take i, p.2 ∈ L.map (·.2)) ∧ L.length ≤ i
theorem Tkn.start (ks : List (Addr × κ)) : Tkn ks 0 [] := And.intro (fun _ h => by cases h) (And.intro (fun _ h => by rw [List.take_zero] at h; cases h) (Nat.le_refl _))
end
end SX
namespace SX
open PySem PySem.Spec L2 PyProof.Rows
end SX
set_option Elab.async false
set_option linter.all false
set_option maxRecDepth 100000
namespace SX
open PySem PySem.Spec L2 PyProof.Rows
end SX
set_option Elab.async false
set_option linter.all false
set_option maxRecDepth 100000
namespace SX
open PySem PySem.Spec PyProof.Rows L2
end SX
namespace SX
open PySem PySem.Spec L2
end SX
set_option Elab.async false
set_option linter.all false
set_option maxRecDepth 100000
namespace SX
open PySem PySem.Spec L2 PyProof.Rows
end SX
set_option Elab.async false
set_option linter.all false
set_option maxRecDepth 100000
namespace SY
open PySem PySem.Spec L2 SX
/-- what is known of a value, and stays so -/
structure Pr where
  p : Hp → V → Prop
  m : ∀ G G' v, Ex G G' → p G v → p G' v
/-- what is known of an object that is owned -/
structure Ob where
  p : Hp → HO → Prop
  m : ∀ G G' o, Ex G G' → p G o → p G' o
abbrev Mp := List (Addr × Ob)
abbrev En := List (Option Pr)
def D (K : PySem.W.Frag) (d : PyData) : Pr := ⟨fun G v => Dp K G v d, fun _ _ _ e h => dm h e⟩
def Av (a : Addr) : Pr := ⟨fun _ v => v = .ref a, fun _ _ _ _ h => h⟩
def Cv (x : V) : Pr := ⟨fun _ v => v = x, fun _ _ _ _ h => h⟩
def OL (K : PySem.W.Frag) (ds : List PyData) : Ob := ⟨fun G o => ∃ vs, o = .lst vs ∧ DpAll K G vs ds, fun _ _ _ e h => by obtain ⟨vs, h1, h2⟩ := h; exact ⟨vs, h1, dma h2 e⟩⟩
def DKo (D : Deck) : Ob := ⟨fun _ o => o = D.ho, fun _ _ _ _ h => h⟩
def Sl (G : Hp) (σ : L2.St) (δ : En) : Prop := σ.length = δ.length ∧ ∀ (k : Nat) (P : Pr), δ[k]? = some (some P) → ∃ v, σ[k]? = some (some v) ∧ P.p G v
def Mm (G : Hp) : Mem → Mp → Prop
  | [], [] => True
  | m :: M, q :: μ => (m.1 = q.1 ∧ q.2.p G m.2) ∧ Mm G M μ
  | _, _ => False
abbrev AP (G : Hp) (Ps : List Pr) (vs : List V) : Prop := AllP G (Ps.map Pr.p) vs
section
variable {G G' : Hp} {σ : L2.St} {δ δ' : En} {M M1 M2 : Mem} {μ μ1 μ2 : Mp} {P : Pr} {v : V} {k i : Nat} {Ps : List Pr} {vs : List V}
theorem Sl.mono (h : Sl G σ δ) (e : Ex G G') : Sl G' σ δ := ⟨h.1, fun k P hk => by obtain ⟨v, h1, h2⟩ := h.2 k P hk; exact ⟨v, h1, P.m _ _ _ e h2⟩⟩
theorem Sl.get (h : Sl G σ δ) (hk : δ[k]? = some (some P)) : ∃ v, σ[k]? = some (some v) ∧ P.p G v := h.2 k P hk
theorem Sl.set (h : Sl G σ δ) (hp : P.p G v) : Sl G (σ.set k (some v)) (δ.set k (some P)) := ⟨by simp [h.1], fun j Q hj => by
  rw [List.getElem?_set] at hj ⊢
  split at hj
  · rename_i e
    subst e
    rw [if_pos rfl]
    split at hj
    · rename_i hl
      cases hj
      rw [if_pos (by rw [h.1]; exact hl)]
      exact ⟨v, rfl, hp⟩
    · cases hj
  · rename_i e
    rw [if_neg e]
    exact h.2 j Q hj⟩
theorem Sl.none (h : Sl G σ δ) : Sl G σ (δ.set k Option.none) := ⟨by simp [h.1], fun j Q hj => by
  rw [List.getElem?_set] at hj
  split at hj
  · split at hj <;> cases hj
  · exact h.2 j Q hj⟩
theorem Sl.none2 (h : Sl G σ δ) : Sl G (σ.set k Option.none) (δ.set k Option.none) := ⟨by simp [h.1], fun j Q hj => by
  rw [List.getElem?_set] at hj ⊢
  split at hj
  · split at hj <;> cases hj
  · rename_i e
    rw [if_neg e]
    exact h.2 j Q hj⟩
/-- less is known of the slots -/
def Le (δ δ' : En) : Prop := δ.length = δ'.length ∧ ∀ (k : Nat) (P : Pr), δ'[k]? = some (some P) → ∃ P0 : Pr, δ[k]? = some (some P0) ∧ ∀ G v, P0.p G v → P.p G v
theorem Sl.le (h : Sl G σ δ) (l : Le δ δ') : Sl G σ δ' := ⟨h.1.trans l.1, fun k P hk => by
  obtain ⟨P0, h1, h2⟩ := l.2 k P hk
  obtain ⟨v, h3, h4⟩ := h.2 k P0 h1
  exact ⟨v, h3, h2 _ _ h4⟩⟩
theorem Le.nil : Le [] [] := ⟨rfl, fun k P h => by simp at h⟩
theorem Le.same {p : Option Pr} (l : Le δ δ') : Le (p :: δ) (p :: δ') := ⟨by simp [l.1], fun k P h => by
  cases k with
  | zero => exact ⟨P, h, fun _ _ z => z⟩
  | succ k => exact l.2 k P h⟩
theorem Le.drop {p : Option Pr} (l : Le δ δ') : Le (p :: δ) (Option.none :: δ') := ⟨by simp [l.1], fun k P h => by
  cases k with
  | zero => cases h
  | succ k => exact l.2 k P h⟩
theorem Le.imp {p p' : Pr} (hp : ∀ G v, p.p G v → p'.p G v) (l : Le δ δ') : Le (some p :: δ) (some p' :: δ') := ⟨by simp [l.1], fun k P h => by
  cases k with
  | zero => cases h; exact ⟨p, rfl, hp⟩
  | succ k => exact l.2 k P h⟩
theorem Le.refl : ∀ δ : En, Le δ δ := fun δ => ⟨rfl, fun k P h => ⟨P, h, fun _ _ z => z⟩⟩
def wipeY (δ : En) : List Nat → En
  | [] => δ
  | v :: vs => (wipeY δ vs).set v Option.none
theorem Sl.wipe (h : Sl G σ δ) : ∀ vs : List Nat, Sl G (L2.wipe σ vs) (wipeY δ vs)
  | [] => h
  | _ :: vs => (Sl.wipe h vs).none2
theorem wipe_get {σ : L2.St} {j : Nat} : ∀ {vs : List Nat}, (wipe σ vs)[j]? = if j ∈ vs ∧ j < σ.length then some Option.none else σ[j]?
  | [] => by simp [wipe]
  | v :: vs => by
    unfold wipe
    rw [List.getElem?_set, wipe_get (vs := vs)]
    by_cases h : v = j
    · subst h
      by_cases hl : v < σ.length
      · simp [wipe_length, hl]
      · simp [wipe_length, hl, Nat.not_lt.mp hl]
    · simp [h, Ne.symm h]
/-- slots that differ only at these -/
def Same (σ σ' : L2.St) (vs : List Nat) : Prop := σ'.length = σ.length ∧ ∀ j, j ∉ vs → σ'[j]? = σ[j]?
theorem Same.refl (σ : L2.St) (vs : List Nat) : Same σ σ vs := ⟨rfl, fun _ _ => rfl⟩
theorem Same.trans {σ σ1 σ2 : L2.St} {vs : List Nat} (a : Same σ σ1 vs) (b : Same σ1 σ2 vs) : Same σ σ2 vs := ⟨b.1.trans a.1, fun j h => (b.2 j h).trans (a.2 j h)⟩
theorem Same.set {σ : L2.St} {vs : List Nat} {x : Option V} (h : k ∈ vs) : Same σ (σ.set k x) vs := ⟨by simp, fun j hj => List.getElem?_set_ne fun e => hj (by rw [← e]; exact h)⟩
theorem Same.wipe {σ σ' : L2.St} {vs : List Nat} (h : Same σ σ' vs) : wipe σ' vs = wipe σ vs := by
  apply List.ext_getElem?
  intro j
  rw [wipe_get, wipe_get, h.1]
  by_cases hj : j ∈ vs
  · by_cases hl : j < σ.length
    · simp [hj, hl]
    · have : σ'.length ≤ j := by rw [h.1]; omega
      simp [hj, hl, List.getElem?_eq_none this, List.getElem?_eq_none (Nat.not_lt.mp hl)]
  · simp [hj, h.2 j hj]
theorem wipe_wipe {σ : L2.St} {vs : List Nat} : wipe (wipe σ vs) vs = wipe σ vs := by
  apply List.ext_getElem?
  intro j
  rw [wipe_get, wipe_get, wipe_length]
  split <;> rfl
theorem Mm.mono : ∀ {M : Mem} {μ : Mp}, Mm G M μ → Ex G G' → Mm G' M μ
  | [], [], _, _ => trivial
  | _ :: _, q :: _, h, e => ⟨⟨h.1.1, q.2.m _ _ _ e h.1.2⟩, Mm.mono h.2 e⟩
  | [], _ :: _, h, _ => h.elim
  | _ :: _, [], h, _ => h.elim
theorem Mm.app : ∀ {M1 : Mem} {μ1 : Mp}, Mm G M1 μ1 → Mm G M2 μ2 → Mm G (M1 ++ M2) (μ1 ++ μ2)
  | [], [], _, h => h
  | _ :: _, _ :: _, h, h2 => ⟨h.1, Mm.app h.2 h2⟩
  | [], _ :: _, h, _ => h.elim
  | _ :: _, [], h, _ => h.elim
theorem Mm.cut : ∀ {μ1 : Mp} {M : Mem}, Mm G M (μ1 ++ μ2) → ∃ M1 M2, M = M1 ++ M2 ∧ Mm G M1 μ1 ∧ Mm G M2 μ2
  | [], M, h => ⟨[], M, rfl, trivial, h⟩
  | _ :: _, [], h => h.elim
  | _ :: _, m :: M, h => by
    obtain ⟨M1, M2, rfl, h1, h2⟩ := Mm.cut h.2
    exact ⟨m :: M1, M2, rfl, ⟨h.1, h1⟩, h2⟩
theorem Mm.get {a : Addr} {q : Ob} : ∀ {μ : Mp} {M : Mem} {i : Nat}, Mm G M μ → μ[i]? = some (a, q) → ∃ o, M[i]? = some (a, o) ∧ q.p G o
  | [], [], _, _, h => by simp at h
  | [], _ :: _, _, h, _ => h.elim
  | _ :: _, [], _, h, _ => h.elim
  | _ :: _, m :: _, 0, h, e => by
    cases e
    obtain ⟨b, o⟩ := m
    obtain ⟨⟨rfl, h2⟩, _⟩ := h
    exact ⟨o, rfl, h2⟩
  | _ :: _, _ :: _, i + 1, h, e => Mm.get (i := i) h.2 e
theorem Mm.set {a : Addr} {q q' : Ob} {o : HO} (hq : q'.p G o) : ∀ {μ : Mp} {M : Mem} {i : Nat}, Mm G M μ → μ[i]? = some (a, q) → Mm G (M.set i (a, o)) (μ.set i (a, q'))
  | [], [], _, _, h => by simp at h
  | [], _ :: _, _, h, _ => h.elim
  | _ :: _, [], _, h, _ => h.elim
  | _ :: _, _ :: _, 0, h, _ => ⟨⟨rfl, hq⟩, h.2⟩
  | _ :: _, _ :: _, i + 1, h, e => ⟨h.1, Mm.set hq (i := i) h.2 e⟩
theorem Mm.sub : ∀ {μ' μ : Mp}, μ'.Sublist μ → ∀ {M : Mem}, Mm G M μ → ∃ M', M'.Sublist M ∧ Mm G M' μ'
  | _, _, .slnil, [], h => ⟨[], .slnil, h⟩
  | _, _, .slnil, _ :: _, h => h.elim
  | _, _, .cons _ s, [], h => h.elim
  | _, _, .cons _ s, _ :: _, h => by
    obtain ⟨M', h1, h2⟩ := Mm.sub s h.2
    exact ⟨M', h1.cons _, h2⟩
  | _, _, .cons_cons _ s, [], h => h.elim
  | _, _, .cons_cons _ s, m :: _, h => by
    obtain ⟨M', h1, h2⟩ := Mm.sub s h.2
    exact ⟨m :: M', h1.cons_cons _, h.1, h2⟩
theorem Mm.nil (h : Mm G M []) : M = [] := by
  match M, h with
  | [], _ => rfl
theorem AP.mono : ∀ {Ps : List Pr} {vs : List V}, AP G Ps vs → Ex G G' → AP G' Ps vs
  | [], [], _, _ => trivial
  | P :: _, _ :: _, h, e => ⟨P.m _ _ _ e h.1, AP.mono h.2 e⟩
  | [], _ :: _, h, _ => h.elim
  | _ :: _, [], h, _ => h.elim
theorem AP.len : ∀ {Ps : List Pr} {vs : List V}, AP G Ps vs → vs.length = Ps.length
  | [], [], _ => rfl
  | _ :: _, _ :: _, h => by simp [AP.len h.2]
  | [], _ :: _, h => h.elim
  | _ :: _, [], h => h.elim
theorem AP.get : ∀ {Ps : List Pr} {vs : List V} {i : Nat} {P : Pr}, AP G Ps vs → Ps[i]? = some P → ∃ v, vs[i]? = some v ∧ P.p G v
  | [], _, _, _, _, e => by simp at e
  | _ :: _, [], _, _, h, _ => h.elim
  | _ :: _, v :: _, 0, _, h, e => by cases e; exact ⟨v, rfl, h.1⟩
  | _ :: _, _ :: _, i + 1, _, h, e => AP.get (i := i) h.2 e
theorem AP.dpa {K : PySem.W.Frag} : ∀ {ds : List PyData} {vs : List V}, AP G (ds.map (D K)) vs → DpAll K G vs ds
  | [], [], _ => .nil
  | _ :: _, _ :: _, h => .cons h.1 (AP.dpa h.2)
  | [], _ :: _, h => h.elim
  | _ :: _, [], h => h.elim
end
def E1 (te : TE) (δ : En) (μ : Mp) (P : Pr) (μ' : Mp) : Prop := ∀ σ G M, Sl G σ δ → Mm G M μ → Ev te σ G M (fun G' v M' => P.p G' v ∧ Mm G' M' μ')
def EY (te : TE) (δ : En) (μ : Mp) (R : Pr → Mp → Prop) : Prop := ∀ σ G M, Sl G σ δ → Mm G M μ → Ev te σ G M (fun G' v M' => ∃ P μ', R P μ' ∧ P.p G' v ∧ Mm G' M' μ')
def T1 (tt : TT) (δ : En) (μ : Mp) (b : Bool) (μ' : Mp) : Prop := ∀ σ G M, Sl G σ δ → Mm G M μ → ∀ G1 H F, Ex G G1 → Me G1 (M ++ F) H → ∀ Q : Bool → Hp → Prop, (∀ G2 M2 H2, Ex G1 G2 → Me G2 (M2 ++ F) H2 → Mm G2 M2 μ' → Q b H2) → tt σ H Q
def EA (ta : TA) (δ : En) (μ : Mp) (Ps : List Pr) (μ' : Mp) : Prop := ∀ σ G M, Sl G σ δ → Mm G M μ → ∀ G1 H F, Ex G G1 → Me G1 (M ++ F) H → ∀ Q : List V → Hp → Prop, (∀ vs G2 M2 H2, Ex G1 G2 → Me G2 (M2 ++ F) H2 → AP G2 Ps vs → Mm G2 M2 μ' → Q vs H2) → ta σ H Q
/-- a new list, owned -/
def EO (K : PySem.W.Frag) (te : TE) (δ : En) (μ : Mp) (ds : List PyData) (μ' : Mp) : Prop := ∀ σ G M, Sl G σ δ → Mm G M μ → Ev te σ G M (fun G' v M' => ∃ p vs M0, v = .ref p ∧ M' = M0 ++ [(p, .lst vs)] ∧ DpAll K G' vs ds ∧ Mm G' M0 μ')
/-- a list (tuple) that can be read -/
def LR (K : PySem.W.Frag) (P : Pr) (μ : Mp) (ds : List PyData) : Prop := ∀ G v M, P.p G v → Mm G M μ → ∃ a xs, v = .ref a ∧ AtL K G M a xs ∧ DpAll K G xs ds
theorem LR.at {K : PySem.W.Frag} {P : Pr} {μ : Mp} {ds : List PyData} (h : LR K P μ ds) (G : Hp) (v : V) (M F : Mem) (H : Hp) (p : P.p G v) (mm : Mm G M μ) (m : Me G (M ++ F) H) : ∃ a xs, v = .ref a ∧ SqL K H a xs ∧ DpAll K G xs ds := by
  obtain ⟨a, xs, h1, h2, h3⟩ := h G v M p mm
  exact ⟨a, xs, h1, h2 G H F (Ex.refl _) m, h3⟩
/-- data that can be read -/
def DR (K : PySem.W.Frag) (P : Pr) (μ : Mp) (d : PyData) : Prop := ∀ G v M F H, P.p G v → Mm G M μ → Me G (M ++ F) H → Dp K H v d
section
variable {K : PySem.W.Frag} {te ta tb tc : TE} {tt tu : TT} {tA tr : TA} {δ δ' : En} {μ μ' μ0 μ1 μ2 μ3 : Mp} {P P1 P2 P3 : Pr} {Ps : List Pr} {R : Pr → Mp → Prop} {d e : PyData} {ds es : List PyData} {i j : Int} {a b c : Bool} {k : Nat} {ad : Addr} {s t : Str}
theorem lr_D : LR K (D K (.list ds)) μ ds := fun G v M p _ => by
  obtain ⟨a, xs, rfl, h1, h2⟩ := dp_lst p
  exact ⟨a, xs, rfl, .G h1, h2⟩
theorem lr_O (i : Nat) (h : μ[i]? = some (ad, OL K ds)) : LR K (Av ad) μ ds := fun G v M p mm => by
  obtain ⟨o, h1, vs, rfl, h2⟩ := mm.get h
  exact ⟨ad, vs, p, .M h1, h2⟩
theorem dr_D : DR K (D K d) μ d := fun G v M F H p _ m => dm p m.ex
theorem dr_L (h : LR K P μ ds) : DR K P μ (.list ds) := fun G v M F H p mm m => by
  obtain ⟨a, xs, rfl, h1, h2⟩ := h.at G v M F H p mm m
  exact .lst h1 (dma h2 m.ex)
theorem E1.imp (h : E1 te δ μ P μ') (f : ∀ G v, P.p G v → P1.p G v) : E1 te δ μ P1 μ' := fun σ G M s m => (h σ G M s m).imp fun G1 v M1 _ r => ⟨f _ _ r.1, r.2⟩
theorem E1.le (h : E1 te δ' μ P μ') (l : Le δ δ') : E1 te δ μ P μ' := fun σ G M s m => h σ G M (s.le l) m
theorem E1.y (h : E1 te δ μ P μ') : EY te δ μ (fun Q μ2 => Q = P ∧ μ2 = μ') := fun σ G M s m => (h σ G M s m).imp fun G1 v M1 _ r => ⟨P, μ', ⟨rfl, rfl⟩, r.1, r.2⟩
theorem EY.one (h : EY te δ μ (fun Q μ2 => Q = P ∧ μ2 = μ')) : E1 te δ μ P μ' := fun σ G M s m => (h σ G M s m).imp fun G1 v M1 _ r => by
  obtain ⟨_, _, ⟨rfl, rfl⟩, r1, r2⟩ := r
  exact ⟨r1, r2⟩
theorem EY.imp {R' : Pr → Mp → Prop} (h : EY te δ μ R) (f : ∀ P μ', R P μ' → R' P μ') : EY te δ μ R' := fun σ G M s m => (h σ G M s m).imp fun G1 v M1 _ r => by
  obtain ⟨P, μ', r0, r1, r2⟩ := r
  exact ⟨P, μ', f _ _ r0, r1, r2⟩
theorem EO.own (h : EO K te δ μ ds μ') : EY te δ μ (fun P μ2 => ∃ a, P = Av a ∧ μ2 = μ' ++ [(a, OL K ds)]) := fun σ G M s m => (h σ G M s m).imp fun G1 v M1 _ r => by
  obtain ⟨p, vs, M0, rfl, rfl, r1, r2⟩ := r
  exact ⟨Av p, _, ⟨p, rfl, rfl⟩, rfl, Mm.app r2 ⟨⟨rfl, vs, rfl, r1⟩, trivial⟩⟩
theorem EO.frz (h : EO K te δ μ ds μ') : E1 te δ μ (D K (.list ds)) μ' := fun σ G M s m G1 H F e m1 Q q => (h σ G M s m) G1 H F e m1 Q fun v G2 M2 H2 e2 m2 r => by
  obtain ⟨p, vs, M0, rfl, rfl, r1, r2⟩ := r
  obtain ⟨m3, e3⟩ := m2.freezeLast
  exact q _ _ M0 H2 (e2.trans e3) m3 ⟨.lst (SqL.of upd_same) (dma r1 e3), r2.mono e3⟩
theorem e_var (h : δ[k]? = some (some P)) : E1 (tVar k) δ μ P μ := fun σ G M s m G1 H F e m1 Q q => by
  obtain ⟨v, h1, h2⟩ := s.get h
  exact ⟨v, h1, q v G1 M H (Ex.refl _) m1 ⟨P.m _ _ _ e h2, m.mono e⟩⟩
theorem e_cst {x : V} (h : ∀ G, P.p G x) : E1 (tC x) δ μ P μ := fun σ G M s m G1 H F e m1 Q q => q x G1 M H (Ex.refl _) m1 ⟨h _, m.mono e⟩
theorem e_cI : E1 (tC (.int i)) δ μ (D K (.int i)) μ := e_cst fun _ => .int i
theorem e_cS : E1 (tC (.str s)) δ μ (D K (.str s)) μ := e_cst fun _ => .str s
theorem e_cB : E1 (tC (.bl b)) δ μ (D K (.bool b)) μ := e_cst fun _ => .bl b
theorem e_cN : E1 (tC .non) δ μ (D K .none) μ := e_cst fun _ => .non
/-- one, another, an operation on both -/
theorem e_op {r : R2} (h1 : E1 ta δ μ P1 μ1) (h2 : E1 tb δ μ1 P2 μ2) (hr : ∀ G H F M x y, Me G (M ++ F) H → Mm G M μ2 → P1.p G x → P2.p G y → ∀ Q : VK, (∀ v G2 M2 H2, Ex G G2 → Me G2 (M2 ++ F) H2 → P.p G2 v → Mm G2 M2 μ3 → Q v H2) → r x y H Q) : E1 (tOp r ta tb) δ μ P μ3 := fun σ G M s m G1 H F e m1 Q q =>
  h1 σ G M s m G1 H F e m1 _ fun x G2 M2 H2 e2 m2 r2 => h2 σ G2 M2 (s.mono (e.trans e2)) r2.2 G2 H2 F (Ex.refl _) m2 _ fun y G3 M3 H3 e3 m3 r3 =>
    hr G3 H3 F M3 x y m3 r3.2 (P1.m _ _ _ e3 r2.1) r3.1 Q fun v G4 M4 H4 e4 m4 p4 mm4 => q v G4 M4 H4 ((e2.trans e3).trans e4) m4 ⟨p4, mm4⟩
/-- .. by values -/
theorem e_opD {r : R2} (h1 : E1 ta δ μ (D K d) μ1) (h2 : E1 tb δ μ1 (D K e) μ2) (hr : ∀ G H x y, Dp K G x d → Dp K G y e → ∀ Q : VK, (∀ v, P.p G v → Q v H) → r x y H Q) : E1 (tOp r ta tb) δ μ P μ2 :=
  e_op h1 h2 fun G H F M x y m mm p1 p2 Q q => hr G H x y p1 p2 Q fun v pv => q v G M H (Ex.refl _) m pv mm
theorem e_I {C : Int → Int → Prop} {g : Int → Int → V} (h1 : E1 ta δ μ (D K (.int i)) μ1) (h2 : E1 tb δ μ1 (D K (.int j)) μ2) (hc : C i j) (hg : ∀ G, P.p G (g i j)) : E1 (tOp (rI C g) ta tb) δ μ P μ2 :=
  e_opD h1 h2 fun G H x y p1 p2 Q q => by
    rw [dp_int p1, dp_int p2]
    exact ⟨i, j, rfl, rfl, hc, q _ (hg G)⟩
theorem e_I0 {g : Int → Int → V} (h1 : E1 ta δ μ (D K (.int i)) μ1) (h2 : E1 tb δ μ1 (D K (.int j)) μ2) (hg : ∀ G, P.p G (g i j)) : E1 (tOp (rI0 g) ta tb) δ μ P μ2 :=
  e_opD h1 h2 fun G H x y p1 p2 Q q => by
    rw [dp_int p1, dp_int p2]
    exact ⟨i, j, rfl, rfl, q _ (hg G)⟩
theorem e_add (h1 : E1 ta δ μ (D K (.int i)) μ1) (h2 : E1 tb δ μ1 (D K (.int j)) μ2) : E1 (tOp (rI0 fun i j => .int (i + j)) ta tb) δ μ (D K (.int (i + j))) μ2 := e_I0 h1 h2 fun _ => .int _
theorem e_sub (h1 : E1 ta δ μ (D K (.int i)) μ1) (h2 : E1 tb δ μ1 (D K (.int j)) μ2) : E1 (tOp (rI0 fun i j => .int (i - j)) ta tb) δ μ (D K (.int (i - j))) μ2 := e_I0 h1 h2 fun _ => .int _
theorem e_mul (h1 : E1 ta δ μ (D K (.int i)) μ1) (h2 : E1 tb δ μ1 (D K (.int j)) μ2) (hc : CMul i j) : E1 (tOp (rI CMul fun i j => .int (i * j)) ta tb) δ μ (D K (.int (i * j))) μ2 := e_I h1 h2 hc fun _ => .int _
theorem e_mod (h1 : E1 ta δ μ (D K (.int i)) μ1) (h2 : E1 tb δ μ1 (D K (.int j)) μ2) (hc : 0 < j) : E1 (tOp (rI (fun _ j => 0 < j) fun i j => .int (i % j)) ta tb) δ μ (D K (.int (i % j))) μ2 := e_I h1 h2 hc fun _ => .int _
theorem e_div (h1 : E1 ta δ μ (D K (.int i)) μ1) (h2 : E1 tb δ μ1 (D K (.int j)) μ2) (hc : CDivW i j) : E1 (tOp (rI CDivW fun i j => .int (i / j)) ta tb) δ μ (D K (.int (i / j))) μ2 := e_I h1 h2 hc fun _ => .int _
theorem e_pow (h1 : E1 ta δ μ (D K (.int i)) μ1) (h2 : E1 tb δ μ1 (D K (.int j)) μ2) (hc : CPow i j) : E1 (tOp (rI CPow fun i j => .int (i ^ j.toNat)) ta tb) δ μ (D K (.int (i ^ j.toNat))) μ2 := e_I h1 h2 hc fun _ => .int _
theorem e_lt (h1 : E1 ta δ μ (D K (.int i)) μ1) (h2 : E1 tb δ μ1 (D K (.int j)) μ2) : E1 (tOp (rI0 fun i j => .bl (decide (i < j))) ta tb) δ μ (D K (.bool (decide (i < j)))) μ2 := e_I0 h1 h2 fun _ => .bl _
theorem e_le (h1 : E1 ta δ μ (D K (.int i)) μ1) (h2 : E1 tb δ μ1 (D K (.int j)) μ2) : E1 (tOp (rI0 fun i j => .bl (decide (i ≤ j))) ta tb) δ μ (D K (.bool (decide (i ≤ j)))) μ2 := e_I0 h1 h2 fun _ => .bl _
theorem e_gt (h1 : E1 ta δ μ (D K (.int i)) μ1) (h2 : E1 tb δ μ1 (D K (.int j)) μ2) : E1 (tOp (rI0 fun i j => .bl (decide (j < i))) ta tb) δ μ (D K (.bool (decide (j < i)))) μ2 := e_I0 h1 h2 fun _ => .bl _
theorem e_ge (h1 : E1 ta δ μ (D K (.int i)) μ1) (h2 : E1 tb δ μ1 (D K (.int j)) μ2) : E1 (tOp (rI0 fun i j => .bl (decide (j ≤ i))) ta tb) δ μ (D K (.bool (decide (j ≤ i)))) μ2 := e_I0 h1 h2 fun _ => .bl _
theorem e_eqI (h1 : E1 ta δ μ (D K (.int i)) μ1) (h2 : E1 tb δ μ1 (D K (.int j)) μ2) : E1 (tOp rEq ta tb) δ μ (D K (.bool (decide (i = j)))) μ2 :=
  e_opD h1 h2 fun G H x y p1 p2 Q q => by
    rw [dp_int p1, dp_int p2]
    exact ⟨rfl, q _ (by rw [show decide (V.int i = V.int j) = decide (i = j) by rw [decide_eq_decide]; exact ⟨fun h => by cases h; rfl, fun h => by rw [h]⟩]; exact .bl _)⟩
theorem e_neI (h1 : E1 ta δ μ (D K (.int i)) μ1) (h2 : E1 tb δ μ1 (D K (.int j)) μ2) : E1 (tOp rNe ta tb) δ μ (D K (.bool (!decide (i = j)))) μ2 :=
  e_opD h1 h2 fun G H x y p1 p2 Q q => by
    rw [dp_int p1, dp_int p2]
    exact ⟨rfl, q _ (by rw [show decide (V.int i = V.int j) = decide (i = j) by rw [decide_eq_decide]; exact ⟨fun h => by cases h; rfl, fun h => by rw [h]⟩]; exact .bl _)⟩
theorem e_eqS (h1 : E1 ta δ μ (D K (.str s)) μ1) (h2 : E1 tb δ μ1 (D K (.str t)) μ2) : E1 (tOp rEq ta tb) δ μ (D K (.bool (decide (s = t)))) μ2 :=
  e_opD h1 h2 fun G H x y p1 p2 Q q => by
    rw [dp_str p1, dp_str p2]
    exact ⟨rfl, q _ (by rw [show decide (V.str s = V.str t) = decide (s = t) by rw [decide_eq_decide]; exact ⟨fun h => by cases h; rfl, fun h => by rw [h]⟩]; exact .bl _)⟩
theorem e_neS (h1 : E1 ta δ μ (D K (.str s)) μ1) (h2 : E1 tb δ μ1 (D K (.str t)) μ2) : E1 (tOp rNe ta tb) δ μ (D K (.bool (!decide (s = t)))) μ2 :=
  e_opD h1 h2 fun G H x y p1 p2 Q q => by
    rw [dp_str p1, dp_str p2]
    exact ⟨rfl, q _ (by rw [show decide (V.str s = V.str t) = decide (s = t) by rw [decide_eq_decide]; exact ⟨fun h => by cases h; rfl, fun h => by rw [h]⟩]; exact .bl _)⟩
/-- scalars of unlike kinds are unlike -/
theorem e_eqNS (h1 : E1 ta δ μ (D K .none) μ1) (h2 : E1 tb δ μ1 (D K (.str t)) μ2) : E1 (tOp rEq ta tb) δ μ (D K (.bool false)) μ2 :=
  e_opD h1 h2 fun G H x y p1 p2 Q q => by
    rw [dp_non p1, dp_str p2]
    exact ⟨rfl, q _ (.bl _)⟩
theorem e_eqIS (h1 : E1 ta δ μ (D K (.int i)) μ1) (h2 : E1 tb δ μ1 (D K (.str t)) μ2) : E1 (tOp rEq ta tb) δ μ (D K (.bool false)) μ2 :=
  e_opD h1 h2 fun G H x y p1 p2 Q q => by
    rw [dp_int p1, dp_str p2]
    exact ⟨rfl, q _ (.bl _)⟩
theorem e_eqB (h1 : E1 ta δ μ (D K (.bool a)) μ1) (h2 : E1 tb δ μ1 (D K (.bool b)) μ2) : E1 (tOp rEq ta tb) δ μ (D K (.bool (decide (a = b)))) μ2 :=
  e_opD h1 h2 fun G H x y p1 p2 Q q => by
    rw [dp_bl p1, dp_bl p2]
    exact ⟨rfl, q _ (by rw [show decide (V.bl a = V.bl b) = decide (a = b) by rw [decide_eq_decide]; exact ⟨fun h => by cases h; rfl, fun h => by rw [h]⟩]; exact .bl _)⟩
theorem e_eqD (h1 : E1 ta δ μ P1 μ1) (h2 : E1 tb δ μ1 P2 μ2) (r1 : DR K P1 μ2 d) (r2 : DR K P2 μ2 e) (s1 : SeqAt.shaped d = true) (s2 : SeqAt.shaped e = true) (hb : PyData.eqv d e = b) : E1 (tOp (rEqD K) ta tb) δ μ (D K (.bool b)) μ2 :=
  e_op h1 h2 fun G H F M x y m mm p1 p2 Q q => ⟨d, e, r1 G x M F H p1 mm m, r2 G y M F H p2 mm m, s1, s2, by rw [hb]; exact q _ G M H (Ex.refl _) m (.bl _) mm⟩
theorem e_neD (h1 : E1 ta δ μ P1 μ1) (h2 : E1 tb δ μ1 P2 μ2) (r1 : DR K P1 μ2 d) (r2 : DR K P2 μ2 e) (s1 : SeqAt.shaped d = true) (s2 : SeqAt.shaped e = true) (hb : PyData.eqv d e = b) : E1 (tOp (rNeD K) ta tb) δ μ (D K (.bool (!b))) μ2 :=
  e_op h1 h2 fun G H F M x y m mm p1 p2 Q q => ⟨d, e, r1 G x M F H p1 mm m, r2 G y M F H p2 mm m, s1, s2, by rw [hb]; exact q _ G M H (Ex.refl _) m (.bl _) mm⟩
theorem e_inD (h1 : E1 ta δ μ P1 μ1) (h2 : E1 tb δ μ1 P2 μ2) (r1 : DR K P1 μ2 d) (r2 : DR K P2 μ2 (.list ds)) (s1 : SeqAt.shaped d = true) (s2 : SeqAt.shaped (.list ds) = true) (hb : (ds.any fun z => PyData.eqv z d) = b) : E1 (tOp (rInD K) ta tb) δ μ (D K (.bool b)) μ2 :=
  e_op h1 h2 fun G H F M x y m mm p1 p2 Q q => ⟨d, ds, r1 G x M F H p1 mm m, r2 G y M F H p2 mm m, s1, s2, by rw [hb]; exact q _ G M H (Ex.refl _) m (.bl _) mm⟩
theorem e_ninD (h1 : E1 ta δ μ P1 μ1) (h2 : E1 tb δ μ1 P2 μ2) (r1 : DR K P1 μ2 d) (r2 : DR K P2 μ2 (.list ds)) (s1 : SeqAt.shaped d = true) (s2 : SeqAt.shaped (.list ds) = true) (hb : (ds.any fun z => PyData.eqv z d) = b) : E1 (tOp (rNotInD K) ta tb) δ μ (D K (.bool (!b))) μ2 :=
  e_op h1 h2 fun G H F M x y m mm p1 p2 Q q => ⟨d, ds, r1 G x M F H p1 mm m, r2 G y M F H p2 mm m, s1, s2, by rw [hb]; exact q _ G M H (Ex.refl _) m (.bl _) mm⟩
def isNon : PyData → Bool
  | .none => true
  | _ => false
theorem dp_isNon {G : Hp} {v : V} (h : Dp K G v d) : decide (v = .non) = isNon d := by cases h <;> rfl
theorem e_un {r : V → Hp → VK → Prop} (h : E1 ta δ μ P1 μ1) (hr : ∀ G H F M x, Me G (M ++ F) H → Mm G M μ1 → P1.p G x → ∀ Q : VK, (∀ v G2 M2 H2, Ex G G2 → Me G2 (M2 ++ F) H2 → P.p G2 v → Mm G2 M2 μ2 → Q v H2) → r x H Q) : E1 (tUn r ta) δ μ P μ2 := fun σ G M s m G1 H F e m1 Q q =>
  h σ G M s m G1 H F e m1 _ fun x G2 M2 H2 e2 m2 r2 => hr G2 H2 F M2 x m2 r2.2 r2.1 Q fun v G4 M4 H4 e4 m4 p4 mm4 => q v G4 M4 H4 (e2.trans e4) m4 ⟨p4, mm4⟩
theorem e_neg (h : E1 ta δ μ (D K (.int i)) μ1) : E1 (tUn (rU fun i => .int (-i)) ta) δ μ (D K (.int (-i))) μ1 := e_un h fun G H F M x m mm p Q q => by
  rw [dp_int p]
  exact ⟨i, rfl, q _ G M H (Ex.refl _) m (.int _) mm⟩
theorem e_isN (h : E1 ta δ μ (D K d) μ1) : E1 (tIsN ta) δ μ (D K (.bool (isNon d))) μ1 := fun σ G M s m G1 H F e m1 Q q => h σ G M s m G1 H F e m1 _ fun x G2 M2 H2 e2 m2 r2 => q _ G2 M2 H2 e2 m2 ⟨by rw [dp_isNon r2.1]; exact .bl _, r2.2⟩
theorem e_notN (h : E1 ta δ μ (D K d) μ1) : E1 (tNotN ta) δ μ (D K (.bool (!isNon d))) μ1 := fun σ G M s m G1 H F e m1 Q q => h σ G M s m G1 H F e m1 _ fun x G2 M2 H2 e2 m2 r2 => q _ G2 M2 H2 e2 m2 ⟨by rw [dp_isNon r2.1]; exact .bl _, r2.2⟩
theorem e_and (h1 : E1 ta δ μ (D K (.bool a)) μ1) (h2 : a = true → E1 tb δ μ1 (D K (.bool b)) μ1) : E1 (tAndV ta tb) δ μ (D K (.bool (a && b))) μ1 := fun σ G M s m G1 H F e m1 Q q => h1 σ G M s m G1 H F e m1 _ fun x G2 M2 H2 e2 m2 r2 => by
  rw [dp_bl r2.1]
  refine ⟨a, rfl, ?_⟩
  cases a with
  | true =>
    rw [if_pos rfl]
    exact h2 rfl σ G2 M2 (s.mono (e.trans e2)) r2.2 G2 H2 F (Ex.refl _) m2 Q fun v G3 M3 H3 e3 m3 r3 => q v G3 M3 H3 (e2.trans e3) m3 r3
  | false =>
    rw [if_neg Bool.false_ne_true]
    exact q _ G2 M2 H2 e2 m2 ⟨.bl false, r2.2⟩
theorem e_or (h1 : E1 ta δ μ (D K (.bool a)) μ1) (h2 : a = false → E1 tb δ μ1 (D K (.bool b)) μ1) : E1 (tOrV ta tb) δ μ (D K (.bool (a || b))) μ1 := fun σ G M s m G1 H F e m1 Q q => h1 σ G M s m G1 H F e m1 _ fun x G2 M2 H2 e2 m2 r2 => by
  rw [dp_bl r2.1]
  refine ⟨a, rfl, ?_⟩
  cases a with
  | true =>
    rw [if_pos rfl]
    exact q _ G2 M2 H2 e2 m2 ⟨.bl true, r2.2⟩
  | false =>
    rw [if_neg Bool.false_ne_true]
    exact h2 rfl σ G2 M2 (s.mono (e.trans e2)) r2.2 G2 H2 F (Ex.refl _) m2 Q fun v G3 M3 H3 e3 m3 r3 => q v G3 M3 H3 (e2.trans e3) m3 r3
theorem e_not (h1 : E1 ta δ μ (D K (.bool a)) μ1) : E1 (tNotV ta) δ μ (D K (.bool (!a))) μ1 := fun σ G M s m G1 H F e m1 Q q => h1 σ G M s m G1 H F e m1 _ fun x G2 M2 H2 e2 m2 r2 => by
  rw [dp_bl r2.1]
  exact ⟨a, rfl, q _ G2 M2 H2 e2 m2 ⟨.bl _, r2.2⟩⟩
theorem t_B (h : E1 te δ μ (D K (.bool a)) μ1) : T1 (tB te) δ μ a μ1 := fun σ G M s m G1 H F e m1 Q q => h σ G M s m G1 H F e m1 _ fun x G2 M2 H2 e2 m2 r2 => by
  rw [dp_bl r2.1]
  exact ⟨a, rfl, q G2 M2 H2 e2 m2 r2.2⟩
theorem t_test (h : E1 te δ μ (D K (.bool a)) μ1) : T1 (tTest te) δ μ a μ1 := fun σ G M s m G1 H F e m1 Q q => h σ G M s m G1 H F e m1 _ fun x G2 M2 H2 e2 m2 r2 => by
  rw [dp_bl r2.1]
  exact ⟨a, rfl, q G2 M2 H2 e2 m2 r2.2⟩
theorem t_yes : T1 tYes δ μ true μ := fun σ G M s m G1 H F e m1 Q q => q G1 M H (Ex.refl _) m1 (m.mono e)
theorem t_not (h : T1 tt δ μ a μ1) : T1 (tNot tt) δ μ (!a) μ1 := fun σ G M s m G1 H F e m1 Q q => h σ G M s m G1 H F e m1 _ fun G2 M2 H2 e2 m2 r2 => q G2 M2 H2 e2 m2 r2
theorem t_and (h1 : T1 tt δ μ a μ1) (h2 : a = true → T1 tu δ μ1 b μ1) : T1 (tAnd tt tu) δ μ (a && b) μ1 := fun σ G M s m G1 H F e m1 Q q => h1 σ G M s m G1 H F e m1 _ fun G2 M2 H2 e2 m2 r2 => by
  cases a with
  | true =>
    show (if true = true then _ else _)
    rw [if_pos rfl]
    exact h2 rfl σ G2 M2 (s.mono (e.trans e2)) r2 G2 H2 F (Ex.refl _) m2 Q fun G3 M3 H3 e3 m3 r3 => q G3 M3 H3 (e2.trans e3) m3 r3
  | false =>
    show (if false = true then _ else _)
    rw [if_neg Bool.false_ne_true]
    exact q G2 M2 H2 e2 m2 r2
theorem t_or (h1 : T1 tt δ μ a μ1) (h2 : a = false → T1 tu δ μ1 b μ1) : T1 (tOr tt tu) δ μ (a || b) μ1 := fun σ G M s m G1 H F e m1 Q q => h1 σ G M s m G1 H F e m1 _ fun G2 M2 H2 e2 m2 r2 => by
  cases a with
  | true =>
    show (if true = true then _ else _)
    rw [if_pos rfl]
    exact q G2 M2 H2 e2 m2 r2
  | false =>
    show (if false = true then _ else _)
    rw [if_neg Bool.false_ne_true]
    exact h2 rfl σ G2 M2 (s.mono (e.trans e2)) r2 G2 H2 F (Ex.refl _) m2 Q fun G3 M3 H3 e3 m3 r3 => q G3 M3 H3 (e2.trans e3) m3 r3
/-- a if t else b -/
theorem e_if (h : T1 tt δ μ a μ1) (h1 : a = true → E1 ta δ μ1 P μ2) (h2 : a = false → E1 tb δ μ1 P μ2) : E1 (tIf tt ta tb) δ μ P μ2 := fun σ G M s m G1 H F e m1 Q q => h σ G M s m G1 H F e m1 _ fun G2 M2 H2 e2 m2 r2 => by
  cases a with
  | true =>
    show (if true = true then _ else _)
    rw [if_pos rfl]
    exact h1 rfl σ G2 M2 (s.mono (e.trans e2)) r2 G2 H2 F (Ex.refl _) m2 Q fun v G3 M3 H3 e3 m3 r3 => q v G3 M3 H3 (e2.trans e3) m3 r3
  | false =>
    show (if false = true then _ else _)
    rw [if_neg Bool.false_ne_true]
    exact h2 rfl σ G2 M2 (s.mono (e.trans e2)) r2 G2 H2 F (Ex.refl _) m2 Q fun v G3 M3 H3 e3 m3 r3 => q v G3 M3 H3 (e2.trans e3) m3 r3
theorem e_ifI (h : T1 tt δ μ a μ1) (h1 : a = true → E1 ta δ μ1 (D K (.int i)) μ2) (h2 : a = false → E1 tb δ μ1 (D K (.int j)) μ2) : E1 (tIf tt ta tb) δ μ (D K (.int (if a = true then i else j))) μ2 :=
  e_if h (fun z => by rw [if_pos z]; exact h1 z) (fun z => by rw [if_neg (by rw [z]; exact Bool.false_ne_true)]; exact h2 z)
theorem e_ifD (h : T1 tt δ μ a μ1) (h1 : a = true → E1 ta δ μ1 (D K d) μ2) (h2 : a = false → E1 tb δ μ1 (D K e) μ2) : E1 (tIf tt ta tb) δ μ (D K (if a = true then d else e)) μ2 :=
  e_if h (fun z => by rw [if_pos z]; exact h1 z) (fun z => by rw [if_neg (by rw [z]; exact Bool.false_ne_true)]; exact h2 z)
theorem e_ifTr (h : T1 tt δ μ a μ1) (ha : a = true) (h1 : E1 ta δ μ1 P μ2) : E1 (tIf tt ta tb) δ μ P μ2 := e_if h (fun _ => h1) fun z => by rw [ha] at z; cases z
theorem e_ifFa (h : T1 tt δ μ a μ1) (ha : a = false) (h1 : E1 tb δ μ1 P μ2) : E1 (tIf tt ta tb) δ μ P μ2 := e_if h (fun z => by rw [ha] at z; cases z) fun _ => h1
theorem e_chain {r r' : R2} {p p' : Int → Int → Bool} {x y z : Int} (h1 : E1 ta δ μ (D K (.int x)) μ1) (h2 : E1 tb δ μ1 (D K (.int y)) μ2) (h3 : E1 tc δ μ2 (D K (.int z)) μ2)
    (hr : ∀ H (Q : VK), Q (.bl (p x y)) H → r (.int x) (.int y) H Q) (hr' : ∀ H (Q : VK), Q (.bl (p' y z)) H → r' (.int y) (.int z) H Q) : E1 (tChain r r' ta tb tc) δ μ (D K (.bool (p x y && p' y z))) μ2 := fun σ G M s m G1 H F e m1 Q q =>
  h1 σ G M s m G1 H F e m1 _ fun v G2 M2 H2 e2 m2 r2 => by
    rw [dp_int r2.1]
    refine h2 σ G2 M2 (s.mono (e.trans e2)) r2.2 G2 H2 F (Ex.refl _) m2 _ fun v G3 M3 H3 e3 m3 r3 => ?_
    rw [dp_int r3.1]
    refine hr _ _ ⟨_, rfl, ?_⟩
    generalize p x y = pij at q ⊢
    cases pij with
    | true =>
      show (if true = true then _ else _)
      rw [if_pos rfl]
      refine h3 σ G3 M3 (s.mono ((e.trans e2).trans e3)) r3.2 G3 H3 F (Ex.refl _) m3 _ fun v G4 M4 H4 e4 m4 r4 => ?_
      rw [dp_int r4.1]
      exact hr' _ _ (q _ G4 _ H4 ((e2.trans e3).trans e4) m4 ⟨by rw [Bool.true_and]; exact .bl _, r4.2⟩)
    | false =>
      show (if false = true then _ else _)
      rw [if_neg Bool.false_ne_true]
      exact q _ G3 _ H3 (e2.trans e3) m3 ⟨by rw [Bool.false_and]; exact .bl _, r3.2⟩
theorem e_chLeLe {x y z : Int} (h1 : E1 ta δ μ (D K (.int x)) μ1) (h2 : E1 tb δ μ1 (D K (.int y)) μ2) (h3 : E1 tc δ μ2 (D K (.int z)) μ2) : E1 (tChain (rI0 fun i j => .bl (decide (i ≤ j))) (rI0 fun i j => .bl (decide (i ≤ j))) ta tb tc) δ μ (D K (.bool (decide (x ≤ y) && decide (y ≤ z)))) μ2 :=
  e_chain (p := fun i j => decide (i ≤ j)) (p' := fun i j => decide (i ≤ j)) h1 h2 h3 (fun _ _ q => ⟨_, _, rfl, rfl, q⟩) (fun _ _ q => ⟨_, _, rfl, rfl, q⟩)
theorem e_chLeLt {x y z : Int} (h1 : E1 ta δ μ (D K (.int x)) μ1) (h2 : E1 tb δ μ1 (D K (.int y)) μ2) (h3 : E1 tc δ μ2 (D K (.int z)) μ2) : E1 (tChain (rI0 fun i j => .bl (decide (i ≤ j))) (rI0 fun i j => .bl (decide (i < j))) ta tb tc) δ μ (D K (.bool (decide (x ≤ y) && decide (y < z)))) μ2 :=
  e_chain (p := fun i j => decide (i ≤ j)) (p' := fun i j => decide (i < j)) h1 h2 h3 (fun _ _ q => ⟨_, _, rfl, rfl, q⟩) (fun _ _ q => ⟨_, _, rfl, rfl, q⟩)
theorem a_nil : EA tNil δ μ [] μ := fun σ G M s m G1 H F e m1 Q q => q [] G1 M H (Ex.refl _) m1 trivial (m.mono e)
theorem a_cons (h1 : E1 ta δ μ P μ1) (h2 : EA tr δ μ1 Ps μ2) : EA (tCons ta tr) δ μ (P :: Ps) μ2 := fun σ G M s m G1 H F e m1 Q q =>
  h1 σ G M s m G1 H F e m1 _ fun v G2 M2 H2 e2 m2 r2 => h2 σ G2 M2 (s.mono (e.trans e2)) r2.2 G2 H2 F (Ex.refl _) m2 _ fun vs G3 M3 H3 e3 m3 a3 r3 => q (v :: vs) G3 M3 H3 (e2.trans e3) m3 ⟨P.m _ _ _ e3 r2.1, a3⟩ r3
theorem EA.imp {Ps' : List Pr} (h : EA tA δ μ Ps μ') (f : ∀ G vs, AP G Ps vs → AP G Ps' vs) : EA tA δ μ Ps' μ' := fun σ G M s m G1 H F e m1 Q q => h σ G M s m G1 H F e m1 Q fun vs G2 M2 H2 e2 m2 a2 r2 => q vs G2 M2 H2 e2 m2 (f _ _ a2) r2
/-- data alone -/
def ED (K : PySem.W.Frag) (tA : TA) (δ : En) (μ : Mp) (ds : List PyData) (μ' : Mp) : Prop := EA tA δ μ (ds.map (D K)) μ'
theorem d_nil : ED K tNil δ μ [] μ := a_nil
theorem d_cons (h1 : E1 ta δ μ (D K d) μ1) (h2 : ED K tr δ μ1 ds μ2) : ED K (tCons ta tr) δ μ (d :: ds) μ2 := a_cons h1 h2
/-- *xs among the items -/
theorem d_star (h1 : E1 te δ μ P μ1) (hl : LR K P μ1 ds) (h2 : ED K tr δ μ1 es μ1) (hs : δ = δ) : ED K (StX.tStar K te tr) δ μ (ds ++ es) μ1 := fun σ G M s m G1 H F e m1 Q q =>
  h1 σ G M s m G1 H F e m1 _ fun v G2 M2 H2 e2 m2 r2 => by
    obtain ⟨p, xs, rfl, h3, h4⟩ := hl.at G2 v M2 F H2 r2.1 r2.2 m2
    refine ⟨p, xs, rfl, .inr h3, h2 σ G2 M2 (s.mono (e.trans e2)) r2.2 G2 H2 F (Ex.refl _) m2 _ fun vs G3 M3 H3 e3 m3 a3 r3 => q _ G3 M3 H3 (e2.trans e3) m3 ?_ r3⟩
    have := dpa_app (dma h4 e3) (AP.dpa a3)
    clear q h2 h3 a3 m3 r3
    revert this
    generalize xs ++ vs = zs
    generalize ds ++ es = fs
    intro h
    induction fs generalizing zs with
    | nil => cases h; trivial
    | cons f fs ih =>
      cases h with
      | cons x y => exact ⟨x, ih _ y⟩
theorem e_tup (h : ED K tA δ μ ds μ') (hl : ds.length ≤ 1000) : E1 (tTup tA) δ μ (D K (.tuple ds)) μ' := fun σ G M s m G1 H F e m1 Q q =>
  h σ G M s m G1 H F e m1 _ fun vs G2 M2 H2 e2 m2 a2 r2 => ⟨by rw [dpa_len (AP.dpa a2)]; exact Nat.le_of_lt (small1000 hl), fun p hp => by
    have g2 := m2.free hp
    exact q _ _ _ _ (e2.trans (Ex.new g2)) (m2.newF hp) ⟨.tup (SqT.of upd_same) (dma (AP.dpa a2) (Ex.new g2)), r2.mono (Ex.new g2)⟩⟩
theorem o_lst (h : ED K tA δ μ ds μ') (hl : ds.length ≤ 100000) : EO K (tLst tA) δ μ ds μ' := fun σ G M s m G1 H F e m1 Q q =>
  h σ G M s m G1 H F e m1 _ fun vs G2 M2 H2 e2 m2 a2 r2 => ⟨by rw [dpa_len (AP.dpa a2)]; exact Nat.le_of_lt (sz_ok hl), fun p hp =>
    q _ _ _ _ e2 (m2.newMid hp) ⟨p, vs, M2, rfl, rfl, AP.dpa a2, r2⟩⟩
/-- tuples of any values -/
def Tp (Ps : List Pr) : Pr := ⟨fun G v => ∃ a vs, v = .ref a ∧ G a = some (.tup vs) ∧ AP G Ps vs, fun G G' v e h => by obtain ⟨a, vs, h1, h2, h3⟩ := h; exact ⟨a, vs, h1, e _ _ h2, AP.mono h3 e⟩⟩
def Lp (Ps : List Pr) : Pr := ⟨fun G v => ∃ a vs, v = .ref a ∧ G a = some (.lst vs) ∧ AP G Ps vs, fun G G' v e h => by obtain ⟨a, vs, h1, h2, h3⟩ := h; exact ⟨a, vs, h1, e _ _ h2, AP.mono h3 e⟩⟩
theorem e_tupP (h : EA tA δ μ Ps μ') (hl : Ps.length ≤ 1000) : E1 (tTup tA) δ μ (Tp Ps) μ' := fun σ G M s m G1 H F e m1 Q q =>
  h σ G M s m G1 H F e m1 _ fun vs G2 M2 H2 e2 m2 a2 r2 => ⟨by rw [AP.len a2]; exact Nat.le_of_lt (small1000 hl), fun p hp => by
    have g2 := m2.free hp
    exact q _ _ _ _ (e2.trans (Ex.new g2)) (m2.newF hp) ⟨⟨p, vs, rfl, upd_same, AP.mono a2 (Ex.new g2)⟩, r2.mono (Ex.new g2)⟩⟩
theorem ixLp {Ps : List Pr} {i : Int} {vs : List V} {G : Hp} (ha : AP G Ps vs) (hi : atI Ps i = some P) : ∃ v, atI vs i = some v ∧ P.p G v := by
  unfold atI at hi ⊢
  obtain ⟨k, hk, hd⟩ := Option.bind_eq_some_iff.mp hi
  obtain ⟨v, h1, h2⟩ := AP.get ha hd
  exact ⟨v, by rw [AP.len ha, hk]; exact h1, h2⟩
theorem e_ixTp (h1 : E1 ta δ μ (Tp Ps) μ1) (h2 : E1 tb δ μ1 (D K (.int i)) μ2) (hx : atI Ps i = some P) : E1 (tOp (rIxT K) ta tb) δ μ P μ2 :=
  e_op h1 h2 fun G H F M x y m mm p1 p2 Q q => by
    rw [dp_int p2]
    obtain ⟨a, vs, rfl, h3, h4⟩ := p1
    obtain ⟨v, h5, h6⟩ := ixLp h4 hx
    exact ⟨a, vs, i, v, rfl, rfl, SqT.of (m.ex _ _ h3), h5, q _ G M H (Ex.refl _) m h6 mm⟩
theorem e_ixLp (h1 : E1 ta δ μ (Lp Ps) μ1) (h2 : E1 tb δ μ1 (D K (.int i)) μ2) (hx : atI Ps i = some P) : E1 (tOp (rIxL K) ta tb) δ μ P μ2 :=
  e_op h1 h2 fun G H F M x y m mm p1 p2 Q q => by
    rw [dp_int p2]
    obtain ⟨a, vs, rfl, h3, h4⟩ := p1
    obtain ⟨v, h5, h6⟩ := ixLp h4 hx
    exact ⟨a, vs, i, v, rfl, rfl, SqL.of (m.ex _ _ h3), h5, q _ G M H (Ex.refl _) m h6 mm⟩
theorem dpa_ix {G : Hp} {vs : List V} (ha : DpAll K G vs ds) (hi : atI ds i = some d) : ∃ v, atI vs i = some v ∧ Dp K G v d := by
  unfold atI at hi ⊢
  obtain ⟨k, hk, hd⟩ := Option.bind_eq_some_iff.mp hi
  obtain ⟨v, h1, h2⟩ := dpa_at ha hd
  exact ⟨v, by rw [dpa_len ha, hk]; exact h1, h2⟩
theorem e_ixT (h1 : E1 ta δ μ (D K (.tuple ds)) μ1) (h2 : E1 tb δ μ1 (D K (.int i)) μ2) (hx : atI ds i = some d) : E1 (tOp (rIxT K) ta tb) δ μ (D K d) μ2 :=
  e_op h1 h2 fun G H F M x y m mm p1 p2 Q q => by
    rw [dp_int p2]
    obtain ⟨a, vs, rfl, h3, h4⟩ := dp_tup p1
    obtain ⟨v, h5, h6⟩ := dpa_ix h4 hx
    exact ⟨a, vs, i, v, rfl, rfl, ex_t m.ex h3, h5, q _ G M H (Ex.refl _) m h6 mm⟩
theorem e_ixL (h1 : E1 ta δ μ P1 μ1) (h2 : E1 tb δ μ1 (D K (.int i)) μ2) (hl : LR K P1 μ2 ds) (hx : atI ds i = some d) : E1 (tOp (rIxL K) ta tb) δ μ (D K d) μ2 :=
  e_op h1 h2 fun G H F M x y m mm p1 p2 Q q => by
    rw [dp_int p2]
    obtain ⟨a, vs, rfl, h3, h4⟩ := hl.at G x M F H p1 mm m
    obtain ⟨v, h5, h6⟩ := dpa_ix h4 hx
    exact ⟨a, vs, i, v, rfl, rfl, h3, h5, q _ G M H (Ex.refl _) m h6 mm⟩
theorem atI_map {α : Type} {enc : α → PyData} {xs : List α} {x : α} (h0 : 0 ≤ i) (h1 : i < xs.length) : atI (xs.map enc) i = some (enc (xs.getD i.toNat x)) := by
  unfold atI ixN
  have : i.toNat < xs.length := by omega
  rw [if_pos h0, if_pos (by simpa using h1)]
  simp [this]
theorem e_ixLI {xs : List Int} (h1 : E1 ta δ μ P1 μ1) (h2 : E1 tb δ μ1 (D K (.int i)) μ2) (hl : LR K P1 μ2 (xs.map .int)) (h : 0 ≤ i ∧ i < xs.length) : E1 (tOp (rIxL K) ta tb) δ μ (D K (.int (xs.getD i.toNat 0))) μ2 := e_ixL h1 h2 hl (atI_map h.1 h.2)
theorem e_ixLC {xs : List (List Int)} (h1 : E1 ta δ μ P1 μ1) (h2 : E1 tb δ μ1 (D K (.int i)) μ2) (hl : LR K P1 μ2 (xs.map colD)) (h : 0 ≤ i ∧ i < xs.length) : E1 (tOp (rIxL K) ta tb) δ μ (D K (colD (xs.getD i.toNat []))) μ2 := e_ixL h1 h2 hl (atI_map h.1 h.2)
theorem e_ixTI {xs : List Int} (h1 : E1 ta δ μ (D K (.tuple (xs.map .int))) μ1) (h2 : E1 tb δ μ1 (D K (.int i)) μ2) (h : 0 ≤ i ∧ i < xs.length) : E1 (tOp (rIxT K) ta tb) δ μ (D K (.int (xs.getD i.toNat 0))) μ2 := e_ixT h1 h2 (atI_map h.1 h.2)
theorem e_ixLM {α : Type} {enc : α → PyData} {xs : List α} (x : α) (h1 : E1 ta δ μ P1 μ1) (h2 : E1 tb δ μ1 (D K (.int i)) μ2) (hl : LR K P1 μ2 (xs.map enc)) (h : 0 ≤ i ∧ i < xs.length) : E1 (tOp (rIxL K) ta tb) δ μ (D K (enc (xs.getD i.toNat x))) μ2 := e_ixL h1 h2 hl (atI_map h.1 h.2)
theorem e_CB {r : List V → Hp → VK → Prop} (h : EA tA δ μ Ps μ1) (hr : ∀ G H F M vs, Me G (M ++ F) H → Mm G M μ1 → AP G Ps vs → ∀ Q : VK, (∀ v G2 M2 H2, Ex G G2 → Me G2 (M2 ++ F) H2 → P.p G2 v → Mm G2 M2 μ2 → Q v H2) → r vs H Q) : E1 (tCB r tA) δ μ P μ2 := fun σ G M s m G1 H F e m1 Q q =>
  h σ G M s m G1 H F e m1 _ fun vs G2 M2 H2 e2 m2 a2 r2 => hr G2 H2 F M2 vs m2 r2 a2 Q fun v G3 M3 H3 e3 m3 p3 mm3 => q v G3 M3 H3 (e2.trans e3) m3 ⟨p3, mm3⟩
theorem e_CB1 {r : List V → Hp → VK → Prop} (h : E1 ta δ μ P1 μ1) (hr : ∀ G H F M v, Me G (M ++ F) H → Mm G M μ1 → P1.p G v → ∀ Q : VK, (∀ v G2 M2 H2, Ex G G2 → Me G2 (M2 ++ F) H2 → P.p G2 v → Mm G2 M2 μ2 → Q v H2) → r [v] H Q) : E1 (tCB r (tCons ta tNil)) δ μ P μ2 :=
  e_CB (a_cons h a_nil) fun G H F M vs m mm p Q q => by
    match vs, p with
    | [v], ⟨p1, _⟩ => exact hr G H F M v m mm p1 Q q
theorem e_isi {T : String} (h : E1 ta δ μ (D K d) μ1) (hT : T = "int" ∨ T = "bool" ∨ T = "tuple" ∨ T = "list" ∨ T = "str") : E1 (tCB (rIsi K) (tCons ta (tCons (tC (.ty T)) tNil))) δ μ (D K (.bool (isTy d T))) μ1 :=
  e_CB (a_cons h (a_cons (e_cst (P := Cv (.ty T)) fun _ => rfl) a_nil)) fun G H F M vs m mm p Q q => by
    match vs, p with
    | [v, c], ⟨p1, p2, _⟩ =>
      have p2 : c = .ty T := p2
      subst p2
      have p1 : Dp K G v d := p1
      refine ⟨v, .ty T, .type (tyName d), .type T, isTy d T, rfl, .ty T, tyx_of (dm p1 m.ex), kit_ty ?_, q _ G M H (Ex.refl _) m (.bl _) mm⟩
      unfold isTy
      cases p1 <;> dsimp only [tyName] <;> rcases hT with rfl | rfl | rfl | rfl | rfl <;> decide +kernel
theorem e_len (h : E1 ta δ μ P1 μ1) (hl : LR K P1 μ1 ds) : E1 (tCB (rLenS K) (tCons ta tNil)) δ μ (D K (.int (ds.length : Int))) μ1 :=
  e_CB1 h fun G H F M v m mm p Q q => by
    obtain ⟨a, xs, rfl, h3, h4⟩ := hl.at G v M F H p mm m
    exact ⟨a, xs, rfl, .inl h3, q _ G M H (Ex.refl _) m (by rw [dpa_len h4]; exact .int _) mm⟩
theorem e_lenT (h : E1 ta δ μ (D K (.tuple ds)) μ1) : E1 (tCB (rLenS K) (tCons ta tNil)) δ μ (D K (.int (ds.length : Int))) μ1 :=
  e_CB1 h fun G H F M v m mm p Q q => by
    obtain ⟨a, xs, rfl, h3, h4⟩ := dp_tup p
    exact ⟨a, xs, rfl, .inr (ex_t m.ex h3), q _ G M H (Ex.refl _) m (by rw [dpa_len h4]; exact .int _) mm⟩
theorem o_list (h : E1 ta δ μ P1 μ1) (hl : LR K P1 μ1 ds) : EO K (tCB (rListS K) (tCons ta tNil)) δ μ ds μ1 := fun σ G M s m G1 H F e m1 Q q =>
  h σ G M s m G1 H F e m1 _ fun v G2 M2 H2 e2 m2 r2 => by
    obtain ⟨a, xs, rfl, h3, h4⟩ := hl.at G2 v M2 F H2 r2.1 r2.2 m2
    exact ⟨a, xs, rfl, .inl h3, fun l hl => q _ G2 _ _ e2 (m2.newMid hl) ⟨l, xs, M2, rfl, rfl, h4, r2.2⟩⟩
theorem o_listT (h : E1 ta δ μ (D K (.tuple ds)) μ1) : EO K (tCB (rListS K) (tCons ta tNil)) δ μ ds μ1 := fun σ G M s m G1 H F e m1 Q q =>
  h σ G M s m G1 H F e m1 _ fun v G2 M2 H2 e2 m2 r2 => by
    obtain ⟨a, xs, rfl, h3, h4⟩ := dp_tup r2.1
    exact ⟨a, xs, rfl, .inr (ex_t m2.ex h3), fun l hl => q _ G2 _ _ e2 (m2.newMid hl) ⟨l, xs, M2, rfl, rfl, h4, r2.2⟩⟩
theorem e_tupL (h : E1 ta δ μ P1 μ1) (hl : LR K P1 μ1 ds) : E1 (tCB (rTupS K) (tCons ta tNil)) δ μ (D K (.tuple ds)) μ1 :=
  e_CB1 h fun G H F M v m mm p Q q => by
    obtain ⟨a, xs, rfl, h3, h4⟩ := hl.at G v M F H p mm m
    refine ⟨a, xs, rfl, .inl ⟨h3, fun l hl => ?_⟩⟩
    have g1 := m.free hl
    exact q _ _ M _ (Ex.new g1) (m.newF hl) (.tup (SqT.of upd_same) (dma h4 (Ex.new g1))) (mm.mono (Ex.new g1))
theorem e_tupT (h : E1 ta δ μ (D K (.tuple ds)) μ1) : E1 (tCB (rTupS K) (tCons ta tNil)) δ μ (D K (.tuple ds)) μ1 :=
  e_CB1 h fun G H F M v m mm p Q q => by
    obtain ⟨a, xs, rfl, h3, h4⟩ := dp_tup p
    exact ⟨a, xs, rfl, .inr ⟨ex_t m.ex h3, q _ G M H (Ex.refl _) m p mm⟩⟩
theorem e_int (h : E1 ta δ μ (D K (.int i)) μ1) : E1 (tCB rInt1 (tCons ta tNil)) δ μ (D K (.int i)) μ1 :=
  e_CB1 h fun G H F M v m mm p Q q => .inl ⟨i, by rw [dp_int p], q _ G M H (Ex.refl _) m (.int i) mm⟩
theorem e_intB (h : E1 ta δ μ (D K (.bool a)) μ1) : E1 (tCB rInt1 (tCons ta tNil)) δ μ (D K (.int (if a then 1 else 0))) μ1 :=
  e_CB1 h fun G H F M v m mm p Q q => .inr ⟨a, by rw [dp_bl p], q _ G M H (Ex.refl _) m (.int _) mm⟩
theorem e_sum {ns : List Int} (h : E1 ta δ μ P1 μ1) (hl : LR K P1 μ1 (ns.map .int)) : E1 (tCB (rSum K) (tCons ta tNil)) δ μ (D K (.int ns.sum)) μ1 :=
  e_CB1 h fun G H F M v m mm p Q q => by
    obtain ⟨a, xs, rfl, h3, h4⟩ := hl.at G v M F H p mm m
    rw [dpAll_ints h4] at h3
    exact ⟨a, ns, rfl, h3, q _ G M H (Ex.refl _) m (.int _) mm⟩
theorem e_sumT {ns : List Int} (h : E1 ta δ μ (D K (.tuple (ns.map .int))) μ1) : E1 (tCB (rSumT K) (tCons ta tNil)) δ μ (D K (.int ns.sum)) μ1 :=
  e_CB1 h fun G H F M v m mm p Q q => by
    obtain ⟨a, xs, rfl, h3, h4⟩ := dp_tup p
    rw [dpAll_ints h4] at h3
    exact ⟨a, ns, rfl, ex_t m.ex h3, q _ G M H (Ex.refl _) m (.int _) mm⟩
theorem e_sumC {c : List Int} (h : E1 ta δ μ (D K (colD c)) μ1) : E1 (tCB (rSumT K) (tCons ta tNil)) δ μ (D K (.int c.sum)) μ1 := e_sumT h
theorem e_all {bs : List Bool} (h : E1 ta δ μ (D K (.list (bs.map .bool))) μ1) : E1 (tCB (rAll K) (tCons ta tNil)) δ μ (D K (.bool (bs.all id))) μ1 :=
  e_CB1 h fun G H F M v m mm p Q q => by
    obtain ⟨a, xs, rfl, h3, h4⟩ := dp_lst p
    rw [dpAll_bls h4] at h3
    exact ⟨a, bs, rfl, ex_l m.ex h3, q _ G M H (Ex.refl _) m (.bl _) mm⟩
theorem e_any {bs : List Bool} (h : E1 ta δ μ (D K (.list (bs.map .bool))) μ1) : E1 (tCB (rAny K) (tCons ta tNil)) δ μ (D K (.bool (bs.any id))) μ1 :=
  e_CB1 h fun G H F M v m mm p Q q => by
    obtain ⟨a, xs, rfl, h3, h4⟩ := dp_lst p
    rw [dpAll_bls h4] at h3
    exact ⟨a, bs, rfl, ex_l m.ex h3, q _ G M H (Ex.refl _) m (.bl _) mm⟩
theorem o_cat (h1 : E1 ta δ μ P1 μ1) (h2 : E1 tb δ μ1 P2 μ2) (l1 : LR K P1 μ2 ds) (l2 : LR K P2 μ2 es) (hl : ds.length + es.length ≤ 100000) : EO K (tOp (rCatS K) ta tb) δ μ (ds ++ es) μ2 := fun σ G M s m G1 H F e m1 Q q =>
  h1 σ G M s m G1 H F e m1 _ fun x G2 M2 H2 e2 m2 r2 => h2 σ G2 M2 (s.mono (e.trans e2)) r2.2 G2 H2 F (Ex.refl _) m2 _ fun y G3 M3 H3 e3 m3 r3 => by
    obtain ⟨a, xs, rfl, h3, h4⟩ := l1.at G3 x M3 F H3 (P1.m _ _ _ e3 r2.1) r3.2 m3
    obtain ⟨b, ys, rfl, h5, h6⟩ := l2.at G3 y M3 F H3 r3.1 r3.2 m3
    refine ⟨a, b, xs, ys, rfl, rfl, h3, h5, ?_, fun p hp => ?_⟩
    · rw [dpa_len h4, dpa_len h6]
      exact Nat.le_of_lt (sz_ok hl)
    · exact q _ G3 _ _ (e2.trans e3) (m3.newMid hp) ⟨p, _, M3, rfl, rfl, dpa_app h4 h6, r3.2⟩
theorem o_catM {α : Type} {enc : α → PyData} {xs ys : List α} (h1 : E1 ta δ μ P1 μ1) (h2 : E1 tb δ μ1 P2 μ2) (l1 : LR K P1 μ2 (xs.map enc)) (l2 : LR K P2 μ2 (ys.map enc)) (hl : xs.length + ys.length ≤ 100000) : EO K (tOp (rCatS K) ta tb) δ μ ((xs ++ ys).map enc) μ2 := by
  rw [List.map_append]
  exact o_cat h1 h2 l1 l2 (by simpa using hl)
theorem e_catT (h1 : E1 ta δ μ (D K (.tuple ds)) μ1) (h2 : E1 tb δ μ1 (D K (.tuple es)) μ2) (hl : ds.length + es.length ≤ 100000) : E1 (tOp (rCatA K) ta tb) δ μ (D K (.tuple (ds ++ es))) μ2 := fun σ G M s m G1 H F e m1 Q q =>
  h1 σ G M s m G1 H F e m1 _ fun x G2 M2 H2 e2 m2 r2 => h2 σ G2 M2 (s.mono (e.trans e2)) r2.2 G2 H2 F (Ex.refl _) m2 _ fun y G3 M3 H3 e3 m3 r3 => by
    refine ev_catT (K := K) (ds := ds) (es := es) (σ := []) (G := G3) (M := M3) (ta := fun _ H Q => Q x H) (tb := fun _ H Q => Q y H) (M1 := M3) (M2 := M3) (fun G1 H F e m Q q => q x G1 _ H (Ex.refl _) m ⟨dm r2.1 (e3.trans e), rfl⟩) (fun G1 H F e m Q q => q y G1 _ H (Ex.refl _) m ⟨dm r3.1 e, rfl⟩) hl G3 H3 F (Ex.refl _) m3 Q fun v G4 M4 H4 e4 m4 r4 => ?_
    obtain ⟨r4, rfl⟩ := r4
    exact q v G4 _ H4 ((e2.trans e3).trans e4) m4 ⟨r4, r3.2.mono e4⟩
def cutG {α : Type} (xs : List α) (lo hi : Option Int) : List α := (xs.drop (HT.sIx xs.length 0 lo)).take (HT.sIx xs.length xs.length hi - HT.sIx xs.length 0 lo)
theorem cutG_map {α β : Type} (f : α → β) (xs : List α) (lo hi : Option Int) : cutG (xs.map f) lo hi = (cutG xs lo hi).map f := by
  unfold cutG
  simp [List.map_drop, List.map_take]
/-- a bound of a slice -/
def OY (to : TO) (δ : En) (μ : Mp) (o : Option Int) : Prop := ∀ σ G M, Sl G σ δ → Mm G M μ → ∀ G1 H F, Ex G G1 → Me G1 (M ++ F) H → ∀ Q : Option Int → Hp → Prop, (∀ G2 M2 H2, Ex G1 G2 → Me G2 (M2 ++ F) H2 → Mm G2 M2 μ → Q o H2) → to σ H Q
theorem y_none : OY tNoPart δ μ none := fun σ G M s m G1 H F e m1 Q q => q G1 M H (Ex.refl _) m1 (m.mono e)
theorem y_some (h : E1 ta δ μ (D K (.int i)) μ) : OY (tPart ta) δ μ (some i) := fun σ G M s m G1 H F e m1 Q q => h σ G M s m G1 H F e m1 _ fun x G2 M2 H2 e2 m2 r2 => by
  rw [dp_int r2.1]
  exact ⟨i, rfl, q G2 M2 H2 e2 m2 r2.2⟩
theorem o_sl {tl th : TO} {lo hi : Option Int} (h : E1 te δ μ P1 μ1) (hl : OY tl δ μ1 lo) (hh : OY th δ μ1 hi) (l : LR K P1 μ1 ds) : EO K (tSl (rSlL K) te tl th) δ μ (cutG ds lo hi) μ1 := fun σ G M s m G1 H F e m1 Q q =>
  h σ G M s m G1 H F e m1 _ fun x G2 M2 H2 e2 m2 r2 => hl σ G2 M2 (s.mono (e.trans e2)) r2.2 G2 H2 F (Ex.refl _) m2 _ fun G3 M3 H3 e3 m3 r3 => hh σ G3 M3 (s.mono ((e.trans e2).trans e3)) r3 G3 H3 F (Ex.refl _) m3 _ fun G4 M4 H4 e4 m4 r4 => by
    obtain ⟨a, xs, rfl, h3, h4⟩ := l.at G4 x M4 F H4 (P1.m _ _ _ (e3.trans e4) r2.1) r4 m4
    exact ⟨a, xs, rfl, h3, fun p hp => q _ G4 _ _ ((e2.trans e3).trans e4) (m4.newMid hp) ⟨p, _, M4, rfl, rfl, dpa_cut h4 lo hi, r4⟩⟩
theorem o_slM {α : Type} {enc : α → PyData} {xs : List α} {tl th : TO} {lo hi : Option Int} (h : E1 te δ μ P1 μ1) (hl : OY tl δ μ1 lo) (hh : OY th δ μ1 hi) (l : LR K P1 μ1 (xs.map enc)) : EO K (tSl (rSlL K) te tl th) δ μ ((cutG xs lo hi).map enc) μ1 := by
  rw [← cutG_map]
  exact o_sl h hl hh l
theorem e_slT {tl th : TO} {lo hi : Option Int} (h : E1 te δ μ (D K (.tuple ds)) μ1) (hl : OY tl δ μ1 lo) (hh : OY th δ μ1 hi) : E1 (tSl (rSlA K) te tl th) δ μ (D K (.tuple (cutG ds lo hi))) μ1 := fun σ G M s m G1 H F e m1 Q q =>
  h σ G M s m G1 H F e m1 _ fun x G2 M2 H2 e2 m2 r2 => hl σ G2 M2 (s.mono (e.trans e2)) r2.2 G2 H2 F (Ex.refl _) m2 _ fun G3 M3 H3 e3 m3 r3 => hh σ G3 M3 (s.mono ((e.trans e2).trans e3)) r3 G3 H3 F (Ex.refl _) m3 _ fun G4 M4 H4 e4 m4 r4 => by
    refine ev_slT (K := K) (ds := ds) (σ := []) (G := G4) (M := M4) (te := fun _ H Q => Q x H) (tl := fun _ H Q => Q lo H) (th := fun _ H Q => Q hi H) (M1 := M4) (fun G1 H F e m Q q => q x G1 _ H (Ex.refl _) m ⟨dm r2.1 ((e3.trans e4).trans e), rfl⟩) (fun G1 H F e m Q q => q G1 H (Ex.refl _) m) (fun G1 H F e m Q q => q G1 H (Ex.refl _) m) G4 H4 F (Ex.refl _) m4 Q fun v G5 M5 H5 e5 m5 r5 => ?_
    obtain ⟨r5, rfl⟩ := r5
    exact q v G5 _ H5 (((e2.trans e3).trans e4).trans e5) m5 ⟨r5, r4.mono e5⟩
theorem o_rev (h : E1 te δ μ P1 μ1) (l : LR K P1 μ1 ds) : EO K (tRevL K te) δ μ ds.reverse μ1 := fun σ G M s m G1 H F e m1 Q q =>
  h σ G M s m G1 H F e m1 _ fun v G2 M2 H2 e2 m2 r2 => by
    obtain ⟨a, xs, rfl, h3, h4⟩ := l.at G2 v M2 F H2 r2.1 r2.2 m2
    exact ⟨a, xs, rfl, h3, fun p hp => q _ G2 _ _ e2 (m2.newMid hp) ⟨p, _, M2, rfl, rfl, dpa_rev h4, r2.2⟩⟩
theorem o_revM {α : Type} {enc : α → PyData} {xs : List α} (h : E1 te δ μ P1 μ1) (l : LR K P1 μ1 (xs.map enc)) : EO K (tRevL K te) δ μ (xs.reverse.map enc) μ1 := by
  rw [List.map_reverse]
  exact o_rev h l
end
end SY
set_option Elab.async false
set_option linter.all false
set_option maxRecDepth 100000
namespace SY
open PySem PySem.Spec L2 SX
structure PY where
  nx : En → Mp → Prop
  rt : Pr → Mp → Prop := fun _ _ => False
  bk : En → Mp → Prop := fun _ _ => False
  ct : En → Mp → Prop := fun _ _ => False
  ex : Value → Option Addr → Mp → Prop := fun _ _ _ => False
def PY.po (P : PY) : Po where
  nx := fun G σ M => ∃ δ μ, P.nx δ μ ∧ Sl G σ δ ∧ Mm G M μ
  rt := fun G v M => ∃ Q μ, P.rt Q μ ∧ Q.p G v ∧ Mm G M μ
  bk := fun G σ M => ∃ δ μ, P.bk δ μ ∧ Sl G σ δ ∧ Mm G M μ
  ct := fun G σ M => ∃ δ μ, P.ct δ μ ∧ Sl G σ δ ∧ Mm G M μ
  ex := fun c d G M => ∃ μ, P.ex c d μ ∧ Mm G M μ
def S1 (E : XK) (t : TS) (δ : En) (μ : Mp) (P : PY) : Prop := ∀ σ G M, Sl G σ δ → Mm G M μ → Sv E t σ G M P.po
/-- a target takes a value; vs: the slots it stores -/
def G1 (g : TG) (P : Pr) (δ δ' : En) (vs : List Nat) : Prop := ∀ σ G M F H v, Sl G σ δ → P.p G v → Me G (M ++ F) H → ∀ Q : L2.St → Hp → Prop, (∀ σ', Sl G σ' δ' → Same σ σ' vs → Q σ' H) → g v σ H Q
def GS (g : TGs) (Ps : List Pr) (δ δ' : En) (vs : List Nat) : Prop := ∀ σ G M F H xs, Sl G σ δ → AP G Ps xs → Me G (M ++ F) H → ∀ Q : L2.St → Hp → Prop, (∀ σ', Sl G σ' δ' → Same σ σ' vs → Q σ' H) → g xs σ H Q
section
variable {E : XK} {K : PySem.W.Frag} {te ta tb tc : TE} {tt tu : TT} {tA tr : TA} {δ δ' δ1 δ2 : En} {μ μ' μ0 μ1 μ2 μ3 : Mp} {Q Q1 Q2 : Pr} {Ps : List Pr} {R : Pr → Mp → Prop} {d e : PyData} {ds es : List PyData} {i j : Int} {a b c : Bool} {k : Nat} {ad : Addr} {t u : TS} {P P' : PY} {g : TG} {gs : TGs} {vs : List Nat} {N : En → Mp → Prop}
theorem g_name (hk : k ∈ vs := by decide) : G1 (gName k) Q δ (δ.set k (some Q)) vs := fun σ G M F H v s p m q z => z _ (s.set p) (Same.set hk)
theorem G1.le {δ0 : En} (h : G1 g Q δ δ' vs) (l : Le δ0 δ) : G1 g Q δ0 δ' vs := fun σ G M F H v s => h σ G M F H v (s.le l)
theorem g_nil : GS gNil [] δ δ vs := fun σ G M F H xs s p m q z => by
  match xs, p with
  | [], _ => exact ⟨rfl, z _ s (Same.refl _ _)⟩
theorem g_cons (h1 : G1 g Q δ δ1 vs) (h2 : GS gs Ps δ1 δ2 vs) : GS (gCons g gs) (Q :: Ps) δ δ2 vs := fun σ G M F H xs s p m q z => by
  match xs, p with
  | x :: xs, p => exact ⟨x, xs, rfl, h1 σ G M F H x s p.1 m _ fun σ' s' w' => h2 σ' G M F H xs s' p.2 m _ fun σ2 s2 w2 => z σ2 s2 (w'.trans w2)⟩
theorem dpa_AP {G : Hp} : ∀ {ds : List PyData} {xs : List V}, DpAll K G xs ds → AP G (ds.map (D K)) xs
  | [], _, h => by cases h; trivial
  | d :: ds, _, h => by
    cases h with
    | cons x y => exact ⟨x, dpa_AP y⟩
theorem g_tup {n : Nat} (h : GS gs (ds.map (D K)) δ δ' vs) (hn : ds.length = n) : G1 (gTup K n gs) (D K (.tuple ds)) δ δ' vs := fun σ G M F H v s p m q z => by
  obtain ⟨a, xs, rfl, h3, h4⟩ := dp_tup p
  exact ⟨a, xs, rfl, ex_t m.ex h3, by rw [dpa_len h4, hn], h σ G M F H xs s (dpa_AP h4) m q z⟩
theorem g_tupP {n : Nat} (h : GS gs Ps δ δ' vs) (hn : Ps.length = n) : G1 (gTup K n gs) (Tp Ps) δ δ' vs := fun σ G M F H v s p m q z => by
  obtain ⟨a, xs, rfl, h3, h4⟩ := p
  exact ⟨a, xs, rfl, SqT.of (m.ex _ _ h3), by rw [AP.len h4, hn], h σ G M F H xs s h4 m q z⟩
theorem g_two {n i j : Nat} (hn : n = 2) : G1 (gTup K n (gCons (gName i) (gCons (gName j) gNil))) (D K (.tuple [d, e])) δ ((δ.set i (some (D K d))).set j (some (D K e))) [i, j] := by
  subst hn
  exact g_tup (ds := [d, e]) (g_cons (g_name (by simp)) (g_cons (g_name (by simp)) g_nil)) rfl
theorem S1.le (h : S1 E t δ' μ P) (l : Le δ δ') : S1 E t δ μ P := fun σ G M s m => h σ G M (s.le l) m
theorem S1.imp (h : S1 E t δ μ P) (nx : ∀ δ μ, P.nx δ μ → P'.nx δ μ) (rt : ∀ q μ, P.rt q μ → P'.rt q μ) (bk : ∀ δ μ, P.bk δ μ → P'.bk δ μ) (ct : ∀ δ μ, P.ct δ μ → P'.ct δ μ) (ex : ∀ c d μ, P.ex c d μ → P'.ex c d μ) : S1 E t δ μ P' := fun σ G M s m =>
  (h σ G M s m).imp (fun _ _ _ _ ⟨x, y, h1, h2⟩ => ⟨x, y, nx _ _ h1, h2⟩) (fun _ _ _ _ ⟨x, y, h1, h2⟩ => ⟨x, y, rt _ _ h1, h2⟩) (fun _ _ _ _ ⟨x, y, h1, h2⟩ => ⟨x, y, bk _ _ h1, h2⟩) (fun _ _ _ _ ⟨x, y, h1, h2⟩ => ⟨x, y, ct _ _ h1, h2⟩) (fun _ _ _ _ _ ⟨y, h1, h2⟩ => ⟨y, ex _ _ _ h1, h2⟩)
theorem s_setY (h : EY te δ μ R) (k' : ∀ q μ', R q μ' → P.nx (δ.set k (some q)) μ') : S1 E (tAsg te (gName k)) δ μ P := fun σ G M s m =>
  sv_set (h σ G M s m) fun v G' M' e r => by
    obtain ⟨q, μ', r0, r1, r2⟩ := r
    exact ⟨_, _, k' q μ' r0, (s.mono e).set r1, r2⟩
theorem s_set (h : E1 te δ μ Q μ1) (k' : P.nx (δ.set k (some Q)) μ1) : S1 E (tAsg te (gName k)) δ μ P := s_setY h.y fun q μ' r => by
  obtain ⟨rfl, rfl⟩ := r
  exact k'
theorem s_letY (h : EY te δ μ R) (k' : ∀ q μ', R q μ' → S1 E u (δ.set k (some q)) μ' P) : S1 E (tSeq (tAsg te (gName k)) u) δ μ P := fun σ G M s m =>
  sv_let (h σ G M s m) fun v G' M' e r => by
    obtain ⟨q, μ', r0, r1, r2⟩ := r
    exact k' q μ' r0 _ G' M' ((s.mono e).set r1) r2
theorem s_let (h : E1 te δ μ Q μ1) (k' : S1 E u (δ.set k (some Q)) μ1 P) : S1 E (tSeq (tAsg te (gName k)) u) δ μ P := s_letY h.y fun q μ' r => by
  obtain ⟨rfl, rfl⟩ := r
  exact k'
/-- x = [..], owned -/
theorem s_own (h : EO K te δ μ ds μ1) (k' : ∀ ad, S1 E u (δ.set k (some (Av ad))) (μ1 ++ [(ad, OL K ds)]) P) : S1 E (tSeq (tAsg te (gName k)) u) δ μ P := s_letY h.own fun q μ' r => by
  obtain ⟨a, rfl, rfl⟩ := r
  exact k' a
theorem s_asg (h : E1 te δ μ Q μ1) (hg : G1 g Q δ δ' vs) (k' : P.nx δ' μ1) : S1 E (tAsg te g) δ μ P := fun σ G M s m G1 H F D e m1 hd =>
  h σ G M s m G1 H F e m1 _ fun v G2 M2 H2 e2 m2 r2 => hg σ G2 M2 F H2 v (s.mono (e.trans e2)) r2.1 m2 _ fun σ' s' _ => hd.nx _ G2 M2 H2 e2 m2 ⟨_, _, k', s', r2.2⟩
theorem s_seq (h : S1 E t δ μ { P with nx := N }) (k' : ∀ δ' μ', N δ' μ' → S1 E u δ' μ' P) : S1 E (tSeq t u) δ μ P := fun σ G M s m =>
  sv_seq (N := fun G σ M => ∃ δ μ, N δ μ ∧ Sl G σ δ ∧ Mm G M μ) (h σ G M s m) fun G' σ' M' e n => by
    obtain ⟨δ', μ', n0, n1, n2⟩ := n
    exact k' δ' μ' n0 σ' G' M' n1 n2
theorem s_let2 (h : E1 te δ μ Q μ1) (hg : G1 g Q δ δ' vs) (k' : S1 E u δ' μ1 P) : S1 E (tSeq (tAsg te g) u) δ μ P := s_seq (N := fun x y => x = δ' ∧ y = μ1) (s_asg h hg ⟨rfl, rfl⟩) fun x y r => by
  obtain ⟨rfl, rfl⟩ := r
  exact k'
theorem s_unp2 {i j : Nat} (h : E1 te δ μ (D K (.tuple [d, e])) μ1) (k' : S1 E u ((δ.set i (some (D K d))).set j (some (D K e))) μ1 P) : S1 E (tSeq (tAsg te (gTup K 2 (gCons (gName i) (gCons (gName j) gNil)))) u) δ μ P :=
  s_let2 h (g_tup (vs := [i, j]) (g_cons (g_name (by simp)) (g_cons (g_name (by simp)) g_nil)) rfl) k'
theorem s_unp3 {i j k : Nat} {d3 : PyData} (h : E1 te δ μ (D K (.tuple [d, e, d3])) μ1) (k' : S1 E u (((δ.set i (some (D K d))).set j (some (D K e))).set k (some (D K d3))) μ1 P) : S1 E (tSeq (tAsg te (gTup K 3 (gCons (gName i) (gCons (gName j) (gCons (gName k) gNil))))) u) δ μ P :=
  s_let2 h (g_tup (vs := [i, j, k]) (g_cons (g_name (by simp)) (g_cons (g_name (by simp)) (g_cons (g_name (by simp)) g_nil))) rfl) k'
theorem s_unp2P {i j : Nat} (h : E1 te δ μ (Tp [Q1, Q2]) μ1) (k' : S1 E u ((δ.set i (some Q1)).set j (some Q2)) μ1 P) : S1 E (tSeq (tAsg te (gTup K 2 (gCons (gName i) (gCons (gName j) gNil)))) u) δ μ P :=
  s_let2 h (g_tupP (vs := [i, j]) (g_cons (g_name (by simp)) (g_cons (g_name (by simp)) g_nil)) rfl) k'
theorem s_dropY (h : EY te δ μ R) (k' : ∀ q μ', R q μ' → P.nx δ μ') : S1 E (tDrop te) δ μ P := fun σ G M s m =>
  sv_drop (h σ G M s m) fun v G' M' e r => by
    obtain ⟨q, μ', r0, r1, r2⟩ := r
    exact ⟨_, _, k' q μ' r0, s.mono e, r2⟩
theorem s_drop (h : E1 te δ μ Q μ1) (k' : P.nx δ μ1) : S1 E (tDrop te) δ μ P := s_dropY h.y fun q μ' r => by
  obtain ⟨rfl, rfl⟩ := r
  exact k'
theorem s_do (h : E1 te δ μ Q μ1) (k' : S1 E u δ μ1 P) : S1 E (tSeq (tDrop te) u) δ μ P := s_seq (N := fun x y => x = δ ∧ y = μ1) (s_drop h ⟨rfl, rfl⟩) fun x y r => by
  obtain ⟨rfl, rfl⟩ := r
  exact k'
theorem s_retY (h : EY te δ μ R) (k' : ∀ q μ', R q μ' → P.rt q μ') : S1 E (tRet te) δ μ P := fun σ G M s m =>
  sv_ret (h σ G M s m) fun v G' M' e r => by
    obtain ⟨q, μ', r0, r1, r2⟩ := r
    exact ⟨q, μ', k' q μ' r0, r1, r2⟩
theorem s_ret (h : E1 te δ μ Q μ1) (k' : P.rt Q μ1) : S1 E (tRet te) δ μ P := s_retY h.y fun q μ' r => by
  obtain ⟨rfl, rfl⟩ := r
  exact k'
theorem s_next (k' : P.nx δ μ) : S1 E tNext δ μ P := fun σ G M s m => sv_next fun G' e => ⟨_, _, k', s.mono e, m.mono e⟩
theorem s_raise {cls : Value} (k' : P.ex cls none μ) : S1 E (tRaise E cls) δ μ P := fun σ G M s m => sv_raise fun G' e => ⟨_, k', m.mono e⟩
theorem s_if (h : T1 tt δ μ a μ1) (k1 : a = true → S1 E t δ μ1 P) (k2 : a = false → S1 E u δ μ1 P) : S1 E (tIfS tt t u) δ μ P := fun σ G M s m G1 H F D e m1 hd =>
  h σ G M s m G1 H F e m1 _ fun G2 M2 H2 e2 m2 r2 => by
    cases a with
    | true =>
      show (if true = true then _ else _)
      rw [if_pos rfl]
      exact k1 rfl σ G2 M2 (s.mono (e.trans e2)) r2 G2 H2 F D (Ex.refl _) m2 (hd.up e2)
    | false =>
      show (if false = true then _ else _)
      rw [if_neg Bool.false_ne_true]
      exact k2 rfl σ G2 M2 (s.mono (e.trans e2)) r2 G2 H2 F D (Ex.refl _) m2 (hd.up e2)
/-- if .. : leaves; the rest (no else) -/
theorem s_ifr {r : TS} (h : T1 tt δ μ a μ1) (k1 : a = true → S1 E t δ μ1 { P with nx := fun δ' μ' => S1 E r δ' μ' P }) (k2 : a = false → S1 E r δ μ1 P) : S1 E (tSeq (tIfS tt t tNext) r) δ μ P :=
  s_seq (N := fun δ' μ' => S1 E r δ' μ' P) (s_if h k1 fun z => s_next (k2 z)) fun _ _ z => z
/-- the rest behind both branches -/
theorem s_ifs {r : TS} (h : T1 tt δ μ a μ1) (k1 : a = true → S1 E t δ μ1 { P with nx := fun δ' μ' => S1 E r δ' μ' P }) (k2 : a = false → S1 E u δ μ1 { P with nx := fun δ' μ' => S1 E r δ' μ' P }) : S1 E (tSeq (tIfS tt t u) r) δ μ P :=
  s_seq (N := fun δ' μ' => S1 E r δ' μ' P) (s_if h k1 k2) fun _ _ z => z
/-- what is owned and not needed is forgotten -/
theorem s_less (hs : μ'.Sublist μ) (h : S1 E t δ μ' P) : S1 E t δ μ P := fun σ G M s m => by
  obtain ⟨M', h1, h2⟩ := m.sub hs
  exact sv_sub h1 (h σ G M' s h2)
/-- an owned list, known at slot k, is frozen -/
theorem s_frz {μa μb : Mp} (k : Nat) (hk : δ[k]? = some (some (Av ad))) (h : S1 E t (δ.set k (some (D K (.list ds)))) (μa ++ μb) P) : S1 E t δ (μa ++ (ad, OL K ds) :: μb) P := fun σ G M s m => by
  obtain ⟨Ma, Mb', rfl, ma, mb⟩ := Mm.cut m
  obtain ⟨⟨p, o⟩, Mb, rfl⟩ : ∃ x y, Mb' = x :: y := by
    match Mb', mb with
    | x :: y, _ => exact ⟨x, y, rfl⟩
  obtain ⟨⟨h1, xs, rfl, h2⟩, mb⟩ := mb
  have h1 : p = ad := h1
  subst h1
  intro G1 H F D e m1 hd
  rw [List.append_assoc] at m1
  obtain ⟨m3, e3⟩ := m1.freezeMid
  have e13 := e.trans e3
  refine h σ _ (Ma ++ Mb) ⟨by simp [s.1], fun j q hj => ?_⟩ (Mm.app (ma.mono e13) (mb.mono e13)) _ H F D (Ex.refl _) (by rw [List.append_assoc]; exact m3) (hd.up e3)
  rw [List.getElem?_set] at hj
  split at hj
  · rename_i hkj
    subst hkj
    split at hj
    · cases hj
      obtain ⟨v, hv, hp⟩ := s.get hk
      have hp : v = .ref p := hp
      subst hp
      exact ⟨_, hv, .lst (SqL.of upd_same) (dma h2 e13)⟩
    · cases hj
  · obtain ⟨v, hv, hp⟩ := s.get hj
    exact ⟨v, hv, q.m _ _ _ e13 hp⟩
theorem e_append (n : Nat) (h : E1 te δ μ (Av ad) μ) (h2 : E1 ta δ μ (D K d) μ1) (hl0 : ∃ (n' : Nat) (ds' : List PyData), μ[n']? = some (ad, OL K ds')) (hl : μ1[n]? = some (ad, OL K ds)) (hz : ds.length ≤ 100000) :
    E1 (tBM K "list" rAppend te (tCons ta tNil)) δ μ (D K .none) (μ1.set n (ad, OL K (ds ++ [d]))) := fun σ G M s m G1 H F e m1 q z =>
  h σ G M s m G1 H F e m1 _ fun v G2 M2 H2 e2 m2 r2 => by
    have hv : v = .ref ad := r2.1
    subst hv
    obtain ⟨n', ds', hn'⟩ := hl0
    obtain ⟨o, h5, xs, rfl, h6⟩ := r2.2.get hn'
    refine ⟨.inl ⟨rfl, xs, SqL.of (m2.getF h5)⟩, h2 σ G2 M2 (s.mono (e.trans e2)) r2.2 G2 H2 F (Ex.refl _) m2 _ fun y G3 M3 H3 e3 m3 r3 => ?_⟩
    obtain ⟨o, h7, ys, rfl, h8⟩ := r3.2.get hl
    refine ⟨ad, ys, y, rfl, rfl, m3.getF h7, sz_ok (by rw [dpa_len h8]; exact hz), z _ G3 _ _ (e2.trans e3) (m3.putF h7) ⟨.non, Mm.set ?_ r3.2 hl⟩⟩
    exact ⟨_, rfl, dpa_app h8 (.cons r3.1 .nil)⟩
/-- a list that stands still in the heap -/
def Hl (K : PySem.W.Frag) (ds : List PyData) : Pr := ⟨fun G v => ∃ a xs, v = .ref a ∧ G a = some (.lst xs) ∧ DpAll K G xs ds, fun G G' v e h => by obtain ⟨a, xs, h1, h2, h3⟩ := h; exact ⟨a, xs, h1, e _ _ h2, dma h3 e⟩⟩
theorem lr_H : LR K (Hl K ds) μ ds := fun G v M p _ => by
  obtain ⟨a, xs, rfl, h1, h2⟩ := p
  exact ⟨a, xs, rfl, .G (SqL.of h1), h2⟩
end
/-- a walk of n turns; X i is known of the i-th value -/
structure WkY (J : It) (n : Nat) (X : Nat → Pr) (G2 : Hp) (kp : Mp) : Prop where
  ex : ∃ (Gd : Hp → Prop) (Y : Nat → Hp → V → Hp → Prop), Walk J n Gd Y ∧ (∀ G3 M3 F3 H3 Mk, Ex G2 G3 → Me G3 (M3 ++ F3) H3 → Mk.Sublist M3 → Mm G3 Mk kp → Gd H3) ∧
    ∀ i G3 M3 F3 H3 x H4 Mk, i < n → Ex G2 G3 → Me G3 (M3 ++ F3) H3 → Mk.Sublist M3 → Mm G3 Mk kp → Y i H3 x H4 → ∃ G4, Ex G3 G4 ∧ Me G4 (M3 ++ F3) H4 ∧ (X i).p G4 x
def IY (wi : TI) (δ : En) (μ : Mp) (n : Nat) (X : Nat → Pr) (μ' : Mp) (kp : Mp := []) : Prop := ∀ σ G M, Sl G σ δ → Mm G M μ → ∀ G1 H F, Ex G G1 → Me G1 (M ++ F) H → ∀ Q : It → Hp → Prop,
  (∀ (J : It) G2 M2 H2, Ex G1 G2 → Me G2 (M2 ++ F) H2 → Mm G2 M2 μ' → WkY J n X G2 kp → Q J H2) → wi σ H Q
section
variable {E : XK} {K : PySem.W.Frag} {te ta tb tc : TE} {tt tu : TT} {tA tr : TA} {δ δ' δ1 δ2 : En} {μ μ' μ0 μ1 μ2 μ3 : Mp} {Q Q1 Q2 : Pr} {Ps : List Pr} {R : Pr → Mp → Prop} {d e : PyData} {ds es : List PyData} {i j : Int} {a b c : Bool} {k n : Nat} {ad : Addr} {t u : TS} {P P' : PY} {g : TG} {gs : TGs} {vs : List Nat} {wi : TI} {X : Nat → Pr}
/-- over data that stands still -/
theorem i_list (h : E1 te δ μ (D K (.list ds)) μ') : IY (iList K te) δ μ ds.length (fun i => D K ((ds[i]?).getD .none)) μ' := fun σ G M s m G1 H F e m1 Q q =>
  h σ G M s m G1 H F e m1 _ fun v G2 M2 H2 e2 m2 r2 => by
    obtain ⟨a, xs, rfl, hs, hd⟩ := dp_lst r2.1
    refine ⟨a, rfl, ⟨xs, ex_l m2.ex hs⟩, q _ G2 M2 H2 e2 m2 r2.2 ⟨⟨_, _, by rw [← dpa_len hd]; exact walk_list, fun G3 M3 F3 H3 _ e3 m3 _ _ => ex_l m3.ex (ex_l e3 hs), fun i G3 M3 F3 H3 x H4 Mk hi e3 m3 hsub hkp y => ?_⟩⟩⟩
    obtain ⟨rfl, hx⟩ := y
    obtain ⟨d, h1, h2⟩ := dpa_atV hd hx
    exact ⟨G3, Ex.refl _, m3, by rw [h1]; exact dm h2 e3⟩
theorem i_tup (h : E1 te δ μ (D K (.tuple ds)) μ') : IY (iTup K te) δ μ ds.length (fun i => D K ((ds[i]?).getD .none)) μ' := fun σ G M s m G1 H F e m1 Q q =>
  h σ G M s m G1 H F e m1 _ fun v G2 M2 H2 e2 m2 r2 => by
    obtain ⟨a, xs, rfl, hs, hd⟩ := dp_tup r2.1
    refine ⟨a, rfl, ⟨xs, ex_t m2.ex hs⟩, q _ G2 M2 H2 e2 m2 r2.2 ⟨⟨_, _, by rw [← dpa_len hd]; exact walk_tup, fun G3 M3 F3 H3 _ e3 m3 _ _ => ex_t m3.ex (ex_t e3 hs), fun i G3 M3 F3 H3 x H4 Mk hi e3 m3 hsub hkp y => ?_⟩⟩⟩
    obtain ⟨rfl, hx⟩ := y
    obtain ⟨d, h1, h2⟩ := dpa_atV hd hx
    exact ⟨G3, Ex.refl _, m3, by rw [h1]; exact dm h2 e3⟩
theorem i_rng1 (h : E1 te δ μ (D K (.int i)) μ') (hi : -(2 ^ 62) ≤ i ∧ i < 2 ^ 62) : IY (iRng1 (tCons te tNil)) δ μ i.toNat (fun k => D K (.int (k : Int))) μ' := fun σ G M s m G1 H F e m1 Q q =>
  (a_cons h a_nil) σ G M s m G1 H F e m1 _ fun ws G2 M2 H2 e2 m2 a2 r2 => by
    match ws, a2 with
    | [v], ⟨p1, _⟩ =>
    rw [dp_int p1]
    refine ⟨i, rfl, hi.1, hi.2, q _ G2 M2 H2 e2 m2 r2 ⟨⟨_, _, walk_range, fun _ _ _ _ _ _ _ _ _ => trivial, fun k G3 M3 F3 H3 x H4 Mk hk e3 m3 hsub hkp y => ?_⟩⟩⟩
    obtain ⟨rfl, rfl⟩ := y
    exact ⟨G3, Ex.refl _, m3, by show Dp K G3 (.int (0 + (k : Int))) _; rw [Int.zero_add]; exact .int _⟩
theorem i_rng2 (h : E1 ta δ μ (D K (.int i)) μ1) (h2 : E1 tb δ μ1 (D K (.int j)) μ') (hi : -(2 ^ 62) ≤ i ∧ i < 2 ^ 62 ∧ -(2 ^ 62) ≤ j ∧ j < 2 ^ 62) : IY (iRng2 (tCons ta (tCons tb tNil))) δ μ (j - i).toNat (fun k => D K (.int (i + (k : Int)))) μ' := fun σ G M s m G1 H F e m1 Q q =>
  (a_cons h (a_cons h2 a_nil)) σ G M s m G1 H F e m1 _ fun ws G2 M2 H2 e2 m2 a2 r2 => by
    match ws, a2 with
    | [v, w], ⟨p1, p2, _⟩ =>
    rw [dp_int p1, dp_int p2]
    refine ⟨i, j, rfl, hi, q _ G2 M2 H2 e2 m2 r2 ⟨⟨_, _, walk_range, fun _ _ _ _ _ _ _ _ _ => trivial, fun k G3 M3 F3 H3 x H4 Mk hk e3 m3 hsub hkp y => ?_⟩⟩⟩
    obtain ⟨rfl, rfl⟩ := y
    exact ⟨G3, Ex.refl _, m3, .int _⟩
/-- for: I by the turn -/
theorem s_for {kp : Mp} (I : Nat → En → Mp → Prop) (hw : IY wi δ μ n X μ1 kp) (h0 : I 0 δ μ1)
    (hb : ∀ i δ' μ', i < n → I i δ' μ' → ∃ δ'' ks, G1 g (X i) δ' δ'' ks ∧ S1 E t δ'' μ' { P with nx := I (i + 1), ct := I (i + 1), bk := P.nx })
    (he : ∀ δ' μ', I n δ' μ' → P.nx δ' μ') (hk : ∀ i δ' μ', I i δ' μ' → kp.Sublist μ' := by intros; exact List.nil_sublist _) : S1 E (tFor wi g t) δ μ P := fun σ G M s m G1 H F D e m1 hd =>
  hw σ G M s m G1 H F e m1 _ fun J G2 M2 H2 e2 m2 r2 => by
    intro ⟨⟨Gd, Y, W, hG, hY⟩⟩
    refine for_it W (fun i σ' H' => ∃ G' M' δ' μ', I i δ' μ' ∧ Ex G2 G' ∧ Me G' (M' ++ F) H' ∧ Sl G' σ' δ' ∧ Mm G' M' μ') ⟨G2, M2, δ, μ1, h0, Ex.refl _, m2, s.mono (e.trans e2), r2⟩ ?_ ?_ ?_
    · rintro i σ' H' _ ⟨G', M', δ', μ', ii, e', m', _, r'⟩
      obtain ⟨Mk, h1, h2⟩ := r'.sub (hk _ _ _ ii)
      exact hG G' M' F H' Mk e' m' h1 h2
    · rintro i x σ' H' H4 hi ⟨G', M', δ', μ', ii, e', m', s', r'⟩ y
      obtain ⟨Mk, hk1, hk2⟩ := r'.sub (hk _ _ _ ii)
      obtain ⟨G4, e4, m4, px⟩ := hY i G' M' F H' x H4 Mk hi e' m' hk1 hk2 y
      obtain ⟨δ'', ks, hg, hs⟩ := hb i δ' μ' hi ii
      refine hg σ' G4 M' F H4 x (s'.mono e4) px m4 _ fun σ5 s5 _ => hs σ5 G4 M' s5 (r'.mono e4) G4 H4 F _ (Ex.refl _) m4 ⟨?_, ?_, ?_, ?_, ?_⟩
      · exact fun σ2 G3 M3 H3 e3 m3 ⟨x, y, n1, n2, n3⟩ => ⟨G3, M3, x, y, n1, (e'.trans e4).trans e3, m3, n2, n3⟩
      · exact fun v G3 M3 H3 e3 m3 r => hd.rt v G3 M3 H3 (((e2.trans e').trans e4).trans e3) m3 r
      · exact fun v G3 M3 H3 e3 m3 r => hd.nx v G3 M3 H3 (((e2.trans e').trans e4).trans e3) m3 r
      · exact fun σ2 G3 M3 H3 e3 m3 ⟨x, y, n1, n2, n3⟩ => ⟨G3, M3, x, y, n1, (e'.trans e4).trans e3, m3, n2, n3⟩
      · exact fun c v G3 M3 H3 e3 m3 r => hd.ex c v G3 M3 H3 (((e2.trans e').trans e4).trans e3) m3 r
    · rintro σ' H' ⟨G', M', δ', μ', ii, e', m', s', r'⟩
      exact hd.nx σ' G' M' H' (e2.trans e') m' ⟨δ', μ', he _ _ ii, s', r'⟩
/-- [e for x in l if t]: owned; Ms: what else is owned, by the turn -/
theorem o_lc {kp : Mp} (Ms : Nat → Mp) (bb : Nat → Bool) (fd : Nat → PyData) (hw : IY wi δ μ n X (Ms 0) kp) (hn : n ≤ 100000)
    (hb : ∀ i, i < n → ∃ δ'', G1 g (X i) (wipeY δ vs) δ'' vs ∧ T1 tt δ'' (Ms i) (bb i) (Ms i) ∧ (bb i = true → E1 te δ'' (Ms i) (D K (fd i)) (Ms (i + 1))) ∧ (bb i = false → Ms (i + 1) = Ms i)) (hk : ∀ i, kp.Sublist (Ms i) := by intros; exact List.nil_sublist _) :
    EO K (tLc wi g tt te vs) δ μ (kept n bb fd) (Ms n) := fun σ G M s m G1 H F e m1 Q q =>
  hw σ G M s m G1 H F e m1 _ fun J G2 M2 H2 e2 m2 r2 => by
    rintro ⟨⟨Gd, Y, W, hG, hY⟩⟩ D hD
    refine lc_it W (fun i H' => ∃ G' M' ws, Ex G2 G' ∧ Me G' (M' ++ (D, .lst ws) :: F) H' ∧ Mm G' M' (Ms i) ∧ DpAll K G' ws (kept i bb fd)) ?_ ?_ ?_ ?_
    · exact ⟨G2, M2, [], Ex.refl _, by rw [mem_mid]; exact m2.newMid hD, r2, .nil⟩
    · rintro i H' _ ⟨G', M', ws, e', m', r', _⟩
      obtain ⟨Mk, h1, h2⟩ := r'.sub (hk i)
      exact hG G' M' _ H' Mk e' m' h1 h2
    · rintro i x H' H4 hi ⟨G', M', ws, e', m', r', da⟩ y
      obtain ⟨Mk, hk1, hk2⟩ := r'.sub (hk i)
      obtain ⟨G4, e4, m4, px⟩ := hY i G' M' _ H' x H4 Mk hi e' m' hk1 hk2 y
      obtain ⟨δ'', hg, ht, he, hno⟩ := hb i hi
      have s4 : Sl G4 (wipe σ vs) (wipeY δ vs) := (s.mono (((e.trans e2).trans e').trans e4)).wipe vs
      refine hg _ G4 M' _ H4 x s4 px m4 _ fun σ5 s5 w5 => ⟨by rw [w5.wipe, wipe_wipe], ht σ5 G4 M' s5 (r'.mono e4) G4 H4 _ (Ex.refl _) m4 _ fun G5 M5 H5 e5 m5 r5 => ?_⟩
      have hlw : ws.length ≤ i := by rw [dpa_len da]; exact kept_len i bb fd
      cases hbb : bb i with
      | true =>
        rw [if_pos rfl]
        refine he hbb σ5 G5 M5 (s5.mono e5) r5 G5 H5 _ (Ex.refl _) m5 _ fun y G6 M6 H6 e6 m6 r6 => ?_
        have hm : (M6 ++ (D, HO.lst ws) :: F)[M6.length]? = some (D, .lst ws) := by
          rw [List.getElem?_append_right (Nat.le_refl _), Nat.sub_self]
          rfl
        refine ⟨ws, m6.get hm, sz_ok (by omega), G6, M6, ws ++ [y], ((e'.trans e4).trans e5).trans e6, ?_, r6.2, ?_⟩
        · have := m6.put (o' := .lst (ws ++ [y])) hm
          rw [List.set_append_right _ _ (Nat.le_refl _), Nat.sub_self] at this
          exact this
        · rw [kept_succ, hbb, if_pos rfl]
          exact dpa_app (dma da ((e4.trans e5).trans e6)) (.cons r6.1 .nil)
      | false =>
        rw [if_neg Bool.false_ne_true]
        refine ⟨G5, M5, ws, (e'.trans e4).trans e5, m5, by rw [hno hbb]; exact r5, ?_⟩
        rw [kept_succ, hbb, if_neg Bool.false_ne_true, List.append_nil]
        exact dma da (e4.trans e5)
    · rintro H' ⟨G', M', ws, e', m', r', da⟩
      rw [mem_mid] at m'
      exact q _ G' _ H' (e2.trans e') m' ⟨D, ws, M', rfl, rfl, da, r'⟩
end
end SY
set_option Elab.async false
set_option linter.all false
set_option maxRecDepth 100000
namespace SY
open PySem PySem.Spec L2 SX
/-- less is told -/
def Imp (P Q : Pr) : Prop := ∀ G v, P.p G v → Q.p G v
theorem Imp.refl (P : Pr) : Imp P P := fun _ _ h => h
theorem imp_D {K : PySem.W.Frag} {d e : PyData} (h : d = e) : Imp (D K d) (D K e) := by rw [h]; exact Imp.refl _
def startY (N : List Str) (Ps : List Pr) : En := Ps.map some ++ List.replicate (N.length - Ps.length) none
theorem sl_start {G : Hp} {N : List Str} {Ps : List Pr} {vs : List V} (h : AP G Ps vs) : Sl G (start N vs) (startY N Ps) := by
  have hl := AP.len h
  refine ⟨by simp [L2.start, startY, hl], fun k P hk => ?_⟩
  unfold startY at hk
  unfold L2.start
  rw [List.getElem?_append] at hk ⊢
  split at hk
  · rename_i hlt
    rw [List.getElem?_map] at hk
    cases q : Ps[k]? with
    | none => rw [q] at hk; cases hk
    | some p =>
      rw [q] at hk
      cases hk
      obtain ⟨v, h1, h2⟩ := AP.get h q
      rw [if_pos (by simpa [hl] using hlt)]
      exact ⟨v, by rw [List.getElem?_map, h1]; rfl, h2⟩
  · rw [List.getElem?_replicate] at hk
    split at hk <;> cases hk
/-- a promise: the arguments, what is owned there, what comes back and what is owned then -/
def sp {α : Type} (A : α → List Pr) (m : α → Mp) (pre : α → Prop) (R : α → Pr → Mp → Prop) : Sp :=
  spec (fun x G M vs => Mm G M (m x) ∧ AP G (A x) vs ∧ pre x) (fun x _ G v M' => ∃ Q μ', R x Q μ' ∧ Q.p G v ∧ Mm G M' μ')
/-- what is handed back is as promised -/
@[irreducible] def BackY {α : Type} (R : α → Pr → Mp → Prop) (x : α) (Q : Pr) (μ : Mp) : Prop := ∃ Q2 μ2, R x Q2 μ2 ∧ Imp Q Q2 ∧ μ2.Sublist μ
theorem backY_mk {α : Type} {R : α → Pr → Mp → Prop} {x : α} {Q Q2 : Pr} {μ μ2 : Mp} (h : R x Q2 μ2) (hi : Imp Q Q2) (hs : μ2.Sublist μ) : BackY R x Q μ := by
  unfold BackY
  exact ⟨Q2, μ2, h, hi, hs⟩
theorem backY_of {α : Type} {R : α → Pr → Mp → Prop} {x : α} {Q : Pr} {μ : Mp} (h : BackY R x Q μ) : ∃ Q2 μ2, R x Q2 μ2 ∧ Imp Q Q2 ∧ μ2.Sublist μ := by
  unfold BackY at h
  exact h
section
variable {P : Program} {w : World} {K : PySem.W.Frag} {mg : Str → Option Value} {base : Heap} {α : Type} {A : α → List Pr} {m : α → Mp} {pre : α → Prop} {R : α → Pr → Mp → Prop}
theorem fn_Y {x qual : Str} {st : Stmt} {f : Addr} {fd : FuncData} {N ps : List Str} {k : Nat} (F : Fun K x qual st f fd) (S : FnScope N ps (defScope st)) (len : ∀ x, (A x).length = ps.length)
    (body : ∀ (cdv : Value) (Ar : Around) (outer : List Env) (s : Shared) (H : Hp) (E : XK), Room k (Ar.deeper (PyProof.Rows.envOfC qual (defScope st) s.heap.objs.size f cdv)) →
      ∃ t, PSs (cxOf CX0 P w K mg base N qual (defScope st) f cdv Ar outer s H E).nox (defBody st) t ∧ ∀ x, pre x → S1 E t (startY N (A x)) (m x) { nx := fun _ μ => BackY R x (D K .none) μ, rt := BackY R x }) :
    FnOk P w K mg base CX0 (k + 1) f fd ps (sp A m pre R) := by
  refine fn_sv F S (fun x G M vs h => by rw [AP.len h.2.1, len]) fun cdv Ar outer s H E hr => ?_
  obtain ⟨t, ht, hs⟩ := body cdv Ar outer s H E hr
  refine ⟨t, ht, fun x G M vs h => ?_⟩
  have hb : ∀ {Q : Pr} {μ : Mp} {G' : Hp} {v : V} {M' : Mem} {F : Mem} {H' : Hp}, BackY R x Q μ → Q.p G' v → Mm G' M' μ → Me G' (M' ++ F) H' → ∃ M2, Me G' (M2 ++ F) H' ∧ ∃ Q2 μ2, R x Q2 μ2 ∧ Q2.p G' v ∧ Mm G' M2 μ2 := by
    intro Q μ G' v M' F H' hq hp hm he
    obtain ⟨Q2, μ2, h1, h2, h3⟩ := backY_of hq
    obtain ⟨M2, h4, h5⟩ := hm.sub h3
    exact ⟨M2, he.sub (List.Sublist.append_right h4 F), Q2, μ2, h1, h2 _ _ hp, h5⟩
  intro G1 H F DD e m1 hd
  refine hs x h.2.2 _ G M (sl_start h.2.1) h.1 G1 H F DD e m1 ⟨?_, ?_, ?_, ?_, ?_⟩
  · rintro σ2 G2 M2 H2 e2 m2 ⟨δ2, μ2, n0, n1, n2⟩
    obtain ⟨M3, m3, r⟩ := hb n0 .non n2 m2
    exact hd.nx σ2 G2 M3 H2 e2 m3 r
  · rintro v G2 M2 H2 e2 m2 ⟨Q2, μ2, n0, n1, n2⟩
    obtain ⟨M3, m3, r⟩ := hb n0 n1 n2 m2
    exact hd.rt v G2 M3 H2 e2 m3 r
  · rintro σ2 G2 M2 H2 e2 m2 ⟨δ2, μ2, n0, _⟩
    exact n0.elim
  · rintro σ2 G2 M2 H2 e2 m2 ⟨δ2, μ2, n0, _⟩
    exact n0.elim
  · rintro c d G2 M2 H2 e2 m2 ⟨μ2, n0, _⟩
    exact n0.elim
end
theorem cx_K {P : Program} {w : World} {K : PySem.W.Frag} {mg : Str → Option Value} {base : Heap} {N : List Str} {q : Str} {sc : Scope} {f : Addr} {cdv : Value} {A : Around} {outer : List Env} {s : Shared} {H : Hp} {E : XK} : (cxOf CX0 P w K mg base N q sc f cdv A outer s H E).nox.K = K := rfl
theorem cx_KX {P : Program} {w : World} {K : PySem.W.Frag} {mg : Str → Option Value} {base : Heap} {N : List Str} {q : Str} {sc : Scope} {f : Addr} {cdv : Value} {A : Around} {outer : List Env} {s : Shared} {H : Hp} {E : XK} {CX : CXT} : (cxOf CX P w K mg base N q sc f cdv A outer s H E).K = K := rfl
/-- nothing owned, one thing back -/
abbrev spD {α : Type} (A : α → List Pr) (pre : α → Prop) (B : α → Pr) : Sp := sp A (fun _ => []) pre (fun x Q μ => Q = B x ∧ μ = [])
/-- a deck first -/
abbrev spK {α : Type} (A : α → List Pr) (pre : α → Prop) (D0 : α → Deck) (B : α → Pr) (D1 : α → Deck) : Sp := sp (fun x : Addr × α => Av x.1 :: A x.2) (fun x => [(x.1, DKo (D0 x.2))]) (fun x => pre x.2) (fun x Q μ => Q = B x.2 ∧ μ = [(x.1, DKo (D1 x.2))])
theorem back_D {α : Type} {B : α → Pr} {x : α} {Q : Pr} {μ : Mp} (h : Imp Q (B x)) : BackY (fun x Q μ => Q = B x ∧ μ = []) x Q μ := backY_mk ⟨rfl, rfl⟩ h (List.nil_sublist _)
theorem back_K {α : Type} {B : α → Pr} {D1 : α → Deck} {x : Addr × α} {Q : Pr} {D : Deck} {μ : Mp} (h : Imp Q (B x.2)) (hD : D = D1 x.2) : BackY (fun x Q μ => Q = B x.2 ∧ μ = [(x.1, DKo (D1 x.2))]) x Q ((x.1, DKo D) :: μ) := backY_mk ⟨rfl, rfl⟩ h (by rw [hD]; exact (List.nil_sublist _).cons_cons _)
section
variable {E : XK} {K : PySem.W.Frag} {te ta tb tc tl : TE} {tt tu : TT} {tA tr : TA} {δ δ' : En} {μ μ' μ0 μ1 μ2 rest : Mp} {Q P1 P2 : Pr} {Ps : List Pr} {d e : PyData} {ds es : List PyData} {i j : Int} {a b c : Bool} {k n : Nat} {ad : Addr} {g : TG} {vs : List Nat} {wi : TI}
section
variable {α : Type} {A : α → List Pr} {m : α → Mp} {pre : α → Prop} {R : α → Pr → Mp → Prop} {B : α → Pr} {D0 D1 : α → Deck}
theorem y_call (x : α) (h : EA tA δ μ (A x) (m x ++ rest)) (hp : pre x) : EY (tCall (sp A m pre R) [] E tA) δ μ (fun Q μ' => ∃ μ2, R x Q μ2 ∧ μ' = μ2 ++ rest) := fun σ G M s mm G1 H F e m1 q z =>
  h σ G M s mm G1 H F e m1 _ fun vs G2 M2 H2 e2 m2 a2 r2 => by
    obtain ⟨Ma, Mb, rfl, ma, mb⟩ := Mm.cut r2
    refine ⟨x, G2, Ma, Mb ++ F, by rw [← List.append_assoc]; exact m2, ⟨ma, by rw [List.append_nil]; exact a2, hp⟩, fun v G' M' H' e' m' ⟨Q, μ', r0, r1, r2⟩ => ?_⟩
    exact z v G' (M' ++ Mb) H' (e2.trans e') (by rw [List.append_assoc]; exact m') ⟨Q, _, ⟨μ', r0, rfl⟩, r1, Mm.app r2 (mb.mono e')⟩
theorem e_callD (x : α) (h : EA tA δ μ (A x) μ1) (hp : pre x) : E1 (tCall (spD A pre B) [] E tA) δ μ (B x) μ1 := ((y_call (m := fun _ => []) (R := fun x Q μ => Q = B x ∧ μ = []) x h hp).imp fun Q μ' r => by
  obtain ⟨_, ⟨rfl, rfl⟩, rfl⟩ := r
  exact ⟨rfl, rfl⟩).one
theorem e_callK (x : α) (h : EA tA δ μ (Av ad :: A x) ((ad, DKo (D0 x)) :: rest)) (hp : pre x) : E1 (tCall (spK A pre D0 B D1) [] E tA) δ μ (B x) ((ad, DKo (D1 x)) :: rest) := ((y_call (A := fun x : Addr × α => Av x.1 :: A x.2) (m := fun x => [(x.1, DKo (D0 x.2))]) (pre := fun x => pre x.2) (R := fun x Q μ => Q = B x.2 ∧ μ = [(x.1, DKo (D1 x.2))]) (ad, x) h hp).imp fun Q μ' r => by
  obtain ⟨_, ⟨rfl, rfl⟩, rfl⟩ := r
  exact ⟨rfl, rfl⟩).one
end
theorem kept_mapM {α : Type} {enc out : α → PyData} {xs : List α} {fd : Nat → PyData} (h : ∀ (i : Nat) x, xs[i]? = some x → fd i = out x) : kept xs.length (fun _ => true) fd = xs.map out := kept_ext (by simp) fun i d hd => by
  rw [List.getElem?_map] at hd
  cases q : xs[i]? with
  | none => rw [q] at hd; cases hd
  | some x => rw [q] at hd; cases hd; exact h i x q
theorem getD_map {α : Type} {enc : α → PyData} {xs : List α} {i : Nat} {x : α} (h : xs[i]? = some x) : ((xs.map enc)[i]?).getD .none = enc x := by
  rw [List.getElem?_map, h]
  rfl
/-- a walk over typed items -/
theorem o_mapW {α : Type} {out : α → PyData} {xs : List α} {X : Nat → Pr} {en : α → Pr} (hw : IY wi δ μ xs.length X μ1) (hX : ∀ (i : Nat) x, xs[i]? = some x → X i = en x) (hn : xs.length ≤ 100000)
    (hb : ∀ x, x ∈ xs → ∃ δ'', G1 g (en x) (wipeY δ vs) δ'' vs ∧ E1 te δ'' μ1 (D K (out x)) μ1) : EO K (tLc wi g tYes te vs) δ μ (xs.map out) μ1 := by
  have := o_lc (K := K) (g := g) (tt := tYes) (te := te) (vs := vs) (fun _ => μ1) (fun _ => true) (fun i => ((xs.map out)[i]?).getD .none) hw hn fun i hi => by
    have hx : xs[i]? = some xs[i] := List.getElem?_eq_getElem hi
    obtain ⟨δ'', h1, h2⟩ := hb xs[i] (List.getElem_mem hi)
    exact ⟨δ'', by rw [hX i _ hx]; exact h1, t_yes, fun _ => by rw [getD_map hx]; exact h2, fun z => by cases z⟩
  rw [kept_mapM (enc := out) (out := out) fun i x h => getD_map h] at this
  exact this
theorem o_mapL {α : Type} {enc out : α → PyData} {xs : List α} (hs : E1 tl δ μ (D K (.list (xs.map enc))) μ1) (hn : xs.length ≤ 100000)
    (hb : ∀ x, x ∈ xs → E1 te ((wipeY δ vs).set k (some (D K (enc x)))) μ1 (D K (out x)) μ1) (hk : k ∈ vs := by decide) : EO K (tLc (iList K tl) (gName k) tYes te vs) δ μ (xs.map out) μ1 :=
  o_mapW (X := fun i => D K (((xs.map enc)[i]?).getD .none)) (en := fun x => D K (enc x)) (by have := i_list hs; rw [List.length_map] at this; exact this) (fun i x h => by rw [getD_map h]) hn fun x hx => ⟨_, g_name hk, hb x hx⟩
theorem o_mapT {α : Type} {enc out : α → PyData} {xs : List α} (hs : E1 tl δ μ (D K (.tuple (xs.map enc))) μ1) (hn : xs.length ≤ 100000)
    (hb : ∀ x, x ∈ xs → E1 te ((wipeY δ vs).set k (some (D K (enc x)))) μ1 (D K (out x)) μ1) (hk : k ∈ vs := by decide) : EO K (tLc (iTup K tl) (gName k) tYes te vs) δ μ (xs.map out) μ1 :=
  o_mapW (X := fun i => D K (((xs.map enc)[i]?).getD .none)) (en := fun x => D K (enc x)) (by have := i_tup hs; rw [List.length_map] at this; exact this) (fun i x h => by rw [getD_map h]) hn fun x hx => ⟨_, g_name hk, hb x hx⟩
theorem o_mapR {out : Nat → PyData} (hs : E1 ta δ μ (D K (.int i)) μ1) (hi : -100000 ≤ i ∧ i ≤ 100000)
    (hb : ∀ x : Nat, x < i.toNat → E1 te ((wipeY δ vs).set k (some (D K (.int (x : Int))))) μ1 (D K (out x)) μ1) (hk : k ∈ vs := by decide) : EO K (tLc (iRng1 (tCons ta tNil)) (gName k) tYes te vs) δ μ ((List.range i.toNat).map out) μ1 :=
  o_mapW (xs := List.range i.toNat) (X := fun k => D K (.int (k : Int))) (en := fun x => D K (.int (x : Int))) (by rw [List.length_range]; exact i_rng1 hs (by omega)) (fun i x h => by rw [List.getElem?_eq_some_iff] at h; obtain ⟨_, h⟩ := h; rw [← h, List.getElem_range]) (by rw [List.length_range]; omega) fun x hx => ⟨_, g_name hk, hb x (List.mem_range.mp hx)⟩
theorem o_mapR2 {out : Int → PyData} (hs : E1 ta δ μ (D K (.int i)) μ0) (hs2 : E1 tb δ μ0 (D K (.int j)) μ1) (hi : -50000 ≤ i ∧ i ≤ 50000 ∧ -50000 ≤ j ∧ j ≤ 50000)
    (hb : ∀ x : Int, i ≤ x → x < j → E1 te ((wipeY δ vs).set k (some (D K (.int x)))) μ1 (D K (out x)) μ1) (hk : k ∈ vs := by decide) : EO K (tLc (iRng2 (tCons ta (tCons tb tNil))) (gName k) tYes te vs) δ μ (((List.range (j - i).toNat).map fun (x : Nat) => i + (x : Int)).map out) μ1 :=
  o_mapW (xs := (List.range (j - i).toNat).map fun (x : Nat) => i + (x : Int)) (X := fun k => D K (.int (i + (k : Int)))) (en := fun x => D K (.int x)) (by rw [List.length_map, List.length_range]; exact i_rng2 hs hs2 (by omega)) (fun n x h => by
    rw [List.getElem?_map] at h
    cases q : (List.range (j - i).toNat)[n]? with
    | none => rw [q] at h; cases h
    | some y =>
      rw [q] at h
      cases h
      rw [List.getElem?_eq_some_iff] at q
      obtain ⟨_, q⟩ := q
      rw [← q, List.getElem_range]) (by rw [List.length_map, List.length_range]; omega) fun x hx => ⟨_, g_name hk, by
    obtain ⟨n, hn, rfl⟩ := List.mem_map.mp hx
    rw [List.mem_range] at hn
    exact hb _ (by omega) (by omega)⟩
/-- with a test -/
theorem kept_filter {α : Type} {out : α → PyData} {xs : List α} {p : α → Bool} {bb : Nat → Bool} {fd : Nat → PyData} (h : ∀ (i : Nat) x, xs[i]? = some x → bb i = p x ∧ fd i = out x) : kept xs.length bb fd = (xs.filter p).map out := by
  have : ∀ n, n ≤ xs.length → kept n bb fd = ((xs.take n).filter p).map out := fun n => by
    induction n with
    | zero => intro _; rfl
    | succ n ih =>
      intro hn
      have hx : xs[n]? = some xs[n] := List.getElem?_eq_getElem (by omega)
      obtain ⟨h1, h2⟩ := h n _ hx
      rw [kept_succ, ih (by omega), List.take_add_one, hx, h1, h2]
      simp only [Option.toList, List.filter_append, List.map_append]
      cases hp : p xs[n] <;> simp [hp]
  rw [this _ (Nat.le_refl _), List.take_length]
theorem o_filtW {α : Type} {out : α → PyData} {p : α → Bool} {xs : List α} {X : Nat → Pr} {en : α → Pr} (hw : IY wi δ μ xs.length X μ1) (hX : ∀ (i : Nat) x, xs[i]? = some x → X i = en x) (hn : xs.length ≤ 100000)
    (hb : ∀ x, x ∈ xs → ∃ δ'', G1 g (en x) (wipeY δ vs) δ'' vs ∧ T1 tt δ'' μ1 (p x) μ1 ∧ (p x = true → E1 te δ'' μ1 (D K (out x)) μ1)) : EO K (tLc wi g tt te vs) δ μ ((xs.filter p).map out) μ1 := by
  have := o_lc (K := K) (g := g) (tt := tt) (te := te) (vs := vs) (fun _ => μ1) (fun i => ((xs[i]?).map p).getD false) (fun i => ((xs.map out)[i]?).getD .none) hw hn fun i hi => by
    have hx : xs[i]? = some xs[i] := List.getElem?_eq_getElem hi
    obtain ⟨δ'', h1, h2, h3⟩ := hb xs[i] (List.getElem_mem hi)
    refine ⟨δ'', by rw [hX i _ hx]; exact h1, by rw [hx]; exact h2, fun z => by rw [getD_map hx]; rw [hx] at z; exact h3 z, fun _ => rfl⟩
  rw [kept_filter (p := p) (out := out) fun i x h => ⟨by rw [h]; rfl, getD_map h⟩] at this
  exact this
theorem o_filtL {α : Type} {enc out : α → PyData} {p : α → Bool} {xs : List α} (hs : E1 tl δ μ (D K (.list (xs.map enc))) μ1) (hn : xs.length ≤ 100000)
    (hb : ∀ x, x ∈ xs → T1 tt ((wipeY δ vs).set k (some (D K (enc x)))) μ1 (p x) μ1) (hb2 : ∀ x, x ∈ xs → p x = true → E1 te ((wipeY δ vs).set k (some (D K (enc x)))) μ1 (D K (out x)) μ1) (hk : k ∈ vs := by decide) : EO K (tLc (iList K tl) (gName k) tt te vs) δ μ ((xs.filter p).map out) μ1 :=
  o_filtW (X := fun i => D K (((xs.map enc)[i]?).getD .none)) (en := fun x => D K (enc x)) (by have := i_list hs; rw [List.length_map] at this; exact this) (fun i x h => by rw [getD_map h]) hn fun x hx => ⟨_, g_name hk, hb x hx, hb2 x hx⟩
theorem o_filtR {out : Nat → PyData} {p : Nat → Bool} (hs : E1 ta δ μ (D K (.int i)) μ1) (hi : -100000 ≤ i ∧ i ≤ 100000)
    (hb : ∀ x : Nat, x < i.toNat → T1 tt ((wipeY δ vs).set k (some (D K (.int (x : Int))))) μ1 (p x) μ1) (hb2 : ∀ x : Nat, x < i.toNat → p x = true → E1 te ((wipeY δ vs).set k (some (D K (.int (x : Int))))) μ1 (D K (out x)) μ1) (hk : k ∈ vs := by decide) : EO K (tLc (iRng1 (tCons ta tNil)) (gName k) tt te vs) δ μ (((List.range i.toNat).filter p).map out) μ1 :=
  o_filtW (xs := List.range i.toNat) (X := fun k => D K (.int (k : Int))) (en := fun x => D K (.int (x : Int))) (by rw [List.length_range]; exact i_rng1 hs (by omega)) (fun i x h => by rw [List.getElem?_eq_some_iff] at h; obtain ⟨_, h⟩ := h; rw [← h, List.getElem_range]) (by rw [List.length_range]; omega) fun x hx => ⟨_, g_name hk, hb x (List.mem_range.mp hx), hb2 x (List.mem_range.mp hx)⟩
theorem e_allO {f : α → Bool} {xs : List α} (h : EO K te δ μ (xs.map fun x => .bool (f x)) μ1) : E1 (tCB (rAll K) (tCons te tNil)) δ μ (D K (.bool (xs.all f))) μ1 := by
  have := e_all (bs := xs.map f) (by rw [List.map_map]; exact h.frz)
  rw [List.all_map] at this
  exact this
theorem e_anyO {f : α → Bool} {xs : List α} (h : EO K te δ μ (xs.map fun x => .bool (f x)) μ1) : E1 (tCB (rAny K) (tCons te tNil)) δ μ (D K (.bool (xs.any f))) μ1 := by
  have := e_any (bs := xs.map f) (by rw [List.map_map]; exact h.frz)
  rw [List.any_map] at this
  exact this
theorem e_sumO {f : α → Int} {xs : List α} (h : EO K te δ μ (xs.map fun x => .int (f x)) μ1) : E1 (tCB (rSum K) (tCons te tNil)) δ μ (D K (.int (xs.map f).sum)) μ1 :=
  e_sum (P1 := D K (.list ((xs.map f).map .int))) (by rw [List.map_map]; exact h.frz) lr_D
end
end SY
set_option Elab.async false
set_option linter.all false
set_option maxRecDepth 100000
namespace SY
open PySem PySem.Spec L2 SX
inductive Deed where
  | forget | again | off (d : Int) | read (j d : Int) | copy (j : Int) | swap | out | twice | right
  deriving DecidableEq
def Deed.L : Deed → List PyData
  | .forget => [.str "forget"]
  | .again => [.str "again"]
  | .off d => [.str "off", .int d]
  | .read j d => [.str "read", .int j, .int d]
  | .copy j => [.str "copy", .int j]
  | .swap => [.str "swap"]
  | .out => [.str "out"]
  | .twice => [.str "twice"]
  | .right => [.str "right"]
def Deed.word : Deed → Str
  | .forget => "forget"
  | .again => "again"
  | .off _ => "off"
  | .read _ _ => "read"
  | .copy _ => "copy"
  | .swap => "swap"
  | .out => "out"
  | .twice => "twice"
  | .right => "right"
abbrev deedD (x : Deed) : PyData := .tuple x.L
abbrev odD : Option Deed → PyData
  | none => .none
  | some x => deedD x
theorem cdiv_small {i j : Int} (h0 : 0 < j) (h1 : j < 2 ^ 64) : CDivW i j := wide_div h0 (b := 64) (by omega) (by decide) (by decide)
theorem e_word {K : PySem.W.Frag} {ta : TE} {δ : En} {μ μ1 : Mp} {x : Deed} (h : E1 ta δ μ (D K (.tuple (Deed.L x))) μ1) : E1 (tOp (rIxT K) ta (tC (.int 0))) δ μ (D K (.str x.word)) μ1 := e_ixT h e_cI (by cases x <;> rfl)
end SY
namespace SY
open PySem PySem.Spec L2 SX
end SY
set_option Elab.async false
set_option linter.all false
set_option maxRecDepth 100000
namespace SY
open PySem PySem.Spec L2 SX
section
variable {E : XK} {K : PySem.W.Frag} {C C2 : Addr} {te ta tb tc tl : TE} {tt tu : TT} {tA tr : TA} {δ δ' : En} {μ μ' μ0 μ1 μ2 rest : Mp} {Q P P1 P2 : Pr} {Ps : List Pr} {R : Post} {d e : PyData} {ds es : List PyData} {i j b r b' r' last last' : Int} {cs cs' : List (List Int)} {figs figs' : List Int} {k n : Nat} {ad l : Addr} {m : Str} {t u : TS} {PP : PY}
section
variable {α : Type} {pre : α → Hp → Mem → List V → Prop} {post : α → Mem → Post} {σ : L2.St} {G : Hp} {M : Mem}
theorem ev_callO (h : EA tA δ μ Ps μ1) (s : Sl G σ δ) (mm : Mm G M μ) (hp : ∀ G M vs, AP G Ps vs → Mm G M μ1 → ∃ x, pre x G M vs ∧ ∀ G' v M', Ex G G' → post x M G' v M' → R G' v M') : Ev (tCall (spec pre post) [] E tA) σ G M R := fun G1 H F e m1 q z =>
  h σ G M s mm G1 H F e m1 _ fun vs G2 M2 H2 e2 m2 a2 r2 => by
    obtain ⟨x, h1, h2⟩ := hp G2 M2 vs a2 r2
    exact ⟨x, G2, M2, F, m2, by rw [List.append_nil]; exact h1, fun v G' M' H' e' m' r' => z v G' M' H' (e2.trans e') m' (h2 G' v M' e' r')⟩
theorem ev_propO (h : E1 ta δ μ P1 μ1) (s : Sl G σ δ) (mm : Mm G M μ) (hp : ∀ G v M, P1.p G v → Mm G M μ1 → ∃ x p dx fs, v = .ref p ∧ At G M p (.ins C dx fs) ∧ pre x G M [.ref p] ∧ ∀ G' v' M', Ex G G' → post x M G' v' M' → R G' v' M') : Ev (tProp C (spec pre post) [] E ta) σ G M R := fun G1 H F e m1 q z =>
  h σ G M s mm G1 H F e m1 _ fun v G2 M2 H2 e2 m2 r2 => by
    obtain ⟨x, p, dx, fs, rfl, h1, h2, h3⟩ := hp G2 v M2 r2.1 r2.2
    exact ⟨p, dx, fs, rfl, h1 G2 H2 F (Ex.refl _) m2, x, G2, M2, F, m2, h2, fun v G' M' H' e' m' r' => z v G' M' H' (e2.trans e') m' (h3 G' v M' e' r')⟩
theorem ev_methO (h : E1 ta δ μ P1 μ1) (h2 : EA tA δ μ1 Ps μ2) (s : Sl G σ δ) (mm : Mm G M μ) (hi : ∀ G v M, P1.p G v → Mm G M μ1 → ∃ p dx fs, v = .ref p ∧ At G M p (.ins C dx fs) ∧ fs.lookup m = none)
    (hp : ∀ G v vs M, P1.p G v → AP G Ps vs → Mm G M μ2 → ∃ x, pre x G M (v :: vs) ∧ ∀ G' v' M', Ex G G' → post x M G' v' M' → R G' v' M') : Ev (tMeth C m (spec pre post) [] E ta tA) σ G M R := fun G1 H F e m1 q z =>
  h σ G M s mm G1 H F e m1 _ fun v G2 M2 H2 e2 m2 r2 => by
    obtain ⟨p, dx, fs, rfl, h3, h4⟩ := hi G2 v M2 r2.1 r2.2
    refine ⟨p, dx, fs, rfl, h3 G2 H2 F (Ex.refl _) m2, h4, h2 σ G2 M2 (s.mono (e.trans e2)) r2.2 G2 H2 F (Ex.refl _) m2 _ fun vs G3 M3 H3 e3 m3 a3 r3 => ?_⟩
    obtain ⟨x, h5, h6⟩ := hp G3 _ vs M3 (P1.m _ _ _ e3 r2.1) a3 r3
    exact ⟨x, G3, M3, F, m3, by rw [List.append_nil]; exact h5, fun v G' M' H' e' m' r' => z v G' M' H' ((e2.trans e3).trans e') m' (h6 G' v M' e' r')⟩
end
/-- a sheet that stands still; one whose list l is owned -/
def ShF (K : PySem.W.Frag) (C : Addr) (b r : Int) (cs : List (List Int)) : Pr := ⟨ShFz K C b r cs, fun _ _ _ e h => Mono.mono _ _ _ e h⟩
def ShI (C : Addr) (b r : Int) (l : Addr) : Pr := ⟨fun G v => ∃ p dx, v = .ref p ∧ G p = some (.ins C dx (shF (.int b) (.int r) (.ref l))), fun _ _ _ e h => by obtain ⟨p, dx, h1, h2⟩ := h; exact ⟨p, dx, h1, e _ _ h2⟩⟩
def SR (K : PySem.W.Frag) (C : Addr) (P : Pr) (μ : Mp) (b r : Int) (cs : List (List Int)) : Prop := ∀ G v M, P.p G v → Mm G M μ → ∃ p, v = .ref p ∧ ShAt K C G M p b r cs
theorem sr_F : SR K C (ShF K C b r cs) μ b r cs := fun G v M h _ => by
  obtain ⟨p, rfl, h2⟩ := ShFz.at_ h
  exact ⟨p, rfl, h2 M⟩
theorem sr_O (i : Nat) (h : μ[i]? = some (l, OL K (cs.map colD))) : SR K C (ShI C b r l) μ b r cs := fun G v M hv mm => by
  obtain ⟨p, dx, rfl, h1⟩ := hv
  obtain ⟨o, h2, xs, rfl, h3⟩ := mm.get h
  exact ⟨p, rfl, dx, l, xs, .G h1, .M h2, h3⟩
theorem sr_cons {x : Addr × Ob} (h : SR K C P μ b r cs) : SR K C P (x :: μ) b r cs := fun G v M hv mm => by
  match M, mm with
  | m :: M, mm =>
    obtain ⟨p, rfl, h2⟩ := h G v M hv mm.2
    obtain ⟨dx, l, xs, h3, h4, h5⟩ := h2
    refine ⟨p, rfl, dx, l, xs, fun G1 H F e m1 => h3 G1 H F e (m1.sub (List.sublist_cons_self _ _)), fun G1 H F e m1 => h4 G1 H F e (m1.sub (List.sublist_cons_self _ _)), h5⟩
theorem lr_cons {x : Addr × Ob} (h : LR K P μ ds) : LR K P (x :: μ) ds := fun G v M hv mm => by
  match M, mm with
  | m :: M, mm =>
    obtain ⟨a, xs, h1, h2, h3⟩ := h G v M hv mm.2
    exact ⟨a, xs, h1, fun G1 H F e m1 => h2 G1 H F e (m1.sub (List.sublist_cons_self _ _)), h3⟩
theorem ShAt.ins {G : Hp} {M : Mem} {p : Addr} (h : ShAt K C G M p b r cs) : ∃ dx fs, At G M p (.ins C dx fs) := by
  obtain ⟨dx, l, xs, h1, _⟩ := h
  exact ⟨dx, _, h1⟩
theorem SR.pre (hs : SR K C P μ b r cs) {G : Hp} {v : V} {M : Mem} (h : P.p G v) (mm : Mm G M μ) : ∃ p dx fs, v = .ref p ∧ At G M p (.ins C dx fs) ∧ ShAt K C G M p b r cs := by
  obtain ⟨p, rfl, h2⟩ := hs G v M h mm
  obtain ⟨dx, fs, h3⟩ := ShAt.ins h2
  exact ⟨p, dx, fs, rfl, h3, h2⟩
theorem e_shBase (h : E1 ta δ μ P μ1) (hs : SR K C P μ1 b r cs) : E1 (tProp C (spec (shPre K C) fun x M => isV (.int x.2.1) M) [] E ta) δ μ (D K (.int b)) μ1 := fun σ G M s mm =>
  ev_propO h s mm fun G v M hv m2 => by
    obtain ⟨p, dx, fs, rfl, h1, h2⟩ := hs.pre hv m2
    refine ⟨(p, b, r, cs), p, dx, fs, rfl, h1, ⟨rfl, h2⟩, ?_⟩
    rintro G' _ _ e ⟨rfl, rfl⟩
    exact ⟨.int b, m2.mono e⟩
theorem e_shRows (h : E1 ta δ μ P μ1) (hs : SR K C P μ1 b r cs) : E1 (tProp C (spec (shPre K C) fun x M => isV (.int x.2.2.1) M) [] E ta) δ μ (D K (.int r)) μ1 := fun σ G M s mm =>
  ev_propO h s mm fun G v M hv m2 => by
    obtain ⟨p, dx, fs, rfl, h1, h2⟩ := hs.pre hv m2
    refine ⟨(p, b, r, cs), p, dx, fs, rfl, h1, ⟨rfl, h2⟩, ?_⟩
    rintro G' _ _ e ⟨rfl, rfl⟩
    exact ⟨.int r, m2.mono e⟩
theorem o_shCols (h : E1 ta δ μ P μ1) (hs : SR K C P μ1 b r cs) : EO K (tProp C (spec (shPre K C) fun x M => own K (x.2.2.2.map colD) M) [] E ta) δ μ (cs.map colD) μ1 := fun σ G M s mm =>
  ev_propO h s mm fun G v M hv m2 => by
    obtain ⟨p, dx, fs, rfl, h1, h2⟩ := hs.pre hv m2
    refine ⟨(p, b, r, cs), p, dx, fs, rfl, h1, ⟨rfl, h2⟩, ?_⟩
    rintro G' _ _ e ⟨q, vs, rfl, rfl, hd⟩
    exact ⟨q, vs, M, rfl, rfl, hd, m2.mono e⟩
theorem e_shVal (h : E1 ta δ μ P μ1) (hs : SR K C P μ1 b r cs) (g : GoodSh b r cs) : E1 (tProp C (spec (shGPre K C) fun x M => isV (.int (valueOf x.2.1 x.2.2.2)) M) [] E ta) δ μ (D K (.int (valueOf b cs))) μ1 := fun σ G M s mm =>
  ev_propO h s mm fun G v M hv m2 => by
    obtain ⟨p, dx, fs, rfl, h1, h2⟩ := hs.pre hv m2
    have := g.b2
    have := g.b12
    have := g.len
    refine ⟨(p, b, r, cs), p, dx, fs, rfl, h1, ⟨⟨rfl, h2⟩, by show cs.length ≤ 100000; omega, by show -(2 ^ 64) < b ∧ b < 2 ^ 64; omega⟩, ?_⟩
    rintro G' _ _ e ⟨rfl, rfl⟩
    exact ⟨.int _, m2.mono e⟩
theorem e_shLen (h : E1 ta δ μ P μ1) (hs : SR K C P μ1 b r cs) (hl : cs.length ≤ 10000) : E1 (tCB (rLenO C (spec (shPre K C) fun x M => isV (.int (x.2.2.2.length : Int)) M) E) (tCons ta tNil)) δ μ (D K (.int (cs.length : Int))) μ1 := fun σ G M s mm G1 H F e m1 q z =>
  h σ G M s mm G1 H F e m1 _ fun v G2 M2 H2 e2 m2 r2 => by
    obtain ⟨p, dx, fs, rfl, h1, h2⟩ := hs.pre r2.1 r2.2
    refine ⟨p, dx, fs, rfl, h1 G2 H2 F (Ex.refl _) m2, (p, b, r, cs), G2, M2, F, m2, ⟨rfl, h2⟩, ?_⟩
    rintro v G' M' H' e' m' ⟨rfl, rfl⟩
    exact ⟨_, rfl, ⟨by show (0 : Int) ≤ (cs.length : Int); omega, by show (cs.length : Int) < 2 ^ 63; omega⟩, z _ G' _ H' (e2.trans e') m' ⟨.int _, r2.2.mono e'⟩⟩
theorem e_shIx (h : E1 ta δ μ P μ1) (h' : E1 tb δ μ1 (D K (.int i)) μ2) (hs : SR K C P μ2 b r cs) (hi : 0 ≤ i ∧ i < cs.length) : E1 (tOp (rIxO C (spec (shIxPre K C) fun x M => isD K (colD x.2.2) M) E) ta tb) δ μ (D K (colD (cs.getD i.toNat []))) μ2 :=
  e_op h h' fun G H F M x y m mm p1 p2 Q q => by
    rw [dp_int p2]
    obtain ⟨p, dx, fs, rfl, h1, h2⟩ := hs.pre p1 mm
    refine ⟨p, dx, fs, rfl, h1 G H F (Ex.refl _) m, ((p, b, r, cs), i, cs.getD i.toNat []), G, M, F, m, ⟨rfl, h2, hi.1, ?_⟩, ?_⟩
    · have : i.toNat < cs.length := by omega
      show cs[i.toNat]? = some (cs.getD i.toNat [])
      simp [List.getD, List.getElem?_eq_getElem this]
    · rintro v G' M' H' e' m' ⟨h3, rfl⟩
      exact q v G' _ H' e' m' h3 (mm.mono e')
/-- one op other by the own comparison -/
theorem e_shCmp {f : PyData → PyData → Bool} (h1 : E1 ta δ μ P1 μ1) (h2 : E1 tb δ μ1 P2 μ2) (s1 : SR K C P1 μ2 b r cs) (s2 : SR K C P2 μ2 b' r' cs') : E1 (tOp (rCmpO C (spec (cmpPre K C) (cmpPost f)) E) ta tb) δ μ (D K (.bool (f (placeD b r cs) (placeD b' r' cs')))) μ2 :=
  e_op h1 h2 fun G H F M x y m mm p1 p2 Q q => by
    obtain ⟨p, dx, fs, rfl, k1, k2⟩ := s1.pre p1 mm
    obtain ⟨p', dx', fs', rfl, k3, k4⟩ := s2.pre p2 mm
    refine ⟨p, dx, fs, p', dx', fs', rfl, rfl, k1 G H F (Ex.refl _) m, k3 G H F (Ex.refl _) m, ((p, b, r, cs), (p', b', r', cs')), G, M, F, m, ⟨rfl, k2, k4⟩, ?_⟩
    rintro v G' M' H' e' m' ⟨rfl, rfl⟩
    exact q _ G' _ H' e' m' (.bl _) (mm.mono e')
def WrP (K : PySem.W.Frag) (C : Addr) (b : Int) (figs : List Int) (last : Int) : Pr := ⟨WrFz K C b figs last, fun _ _ _ e h => Mono.mono _ _ _ e h⟩
theorem wr_pre {G : Hp} {v : V} (h : (WrP K C b figs last).p G v) (M : Mem) : ∃ p dx fs, v = .ref p ∧ At G M p (.ins C dx fs) ∧ WrG K C p b figs last G := by
  obtain ⟨p, rfl, dx, l, xs, h1, h2, h3⟩ := h
  exact ⟨p, dx, _, rfl, .G h1, dx, l, xs, h1, h2, h3⟩
theorem e_wrBase (h : E1 ta δ μ (WrP K C b figs last) μ1) : E1 (tProp C (spec (wrPre K C) fun x M => isV (.int x.2.1) M) [] E ta) δ μ (D K (.int b)) μ1 := fun σ G M s mm =>
  ev_propO h s mm fun G v M hv m2 => by
    obtain ⟨p, dx, fs, rfl, h1, h2⟩ := wr_pre hv M
    refine ⟨(p, b, figs, last), p, dx, fs, rfl, h1, ⟨rfl, h2⟩, ?_⟩
    rintro G' _ _ e ⟨rfl, rfl⟩
    exact ⟨.int b, m2.mono e⟩
theorem e_wrLast (h : E1 ta δ μ (WrP K C b figs last) μ1) : E1 (tProp C (spec (wrPre K C) fun x M => isV (.int x.2.2.2) M) [] E ta) δ μ (D K (.int last)) μ1 := fun σ G M s mm =>
  ev_propO h s mm fun G v M hv m2 => by
    obtain ⟨p, dx, fs, rfl, h1, h2⟩ := wr_pre hv M
    refine ⟨(p, b, figs, last), p, dx, fs, rfl, h1, ⟨rfl, h2⟩, ?_⟩
    rintro G' _ _ e ⟨rfl, rfl⟩
    exact ⟨.int last, m2.mono e⟩
theorem o_wrFigs (h : E1 ta δ μ (WrP K C b figs last) μ1) : EO K (tProp C (spec (wrPre K C) fun x M => own K (x.2.2.1.map .int) M) [] E ta) δ μ (figs.map .int) μ1 := fun σ G M s mm =>
  ev_propO h s mm fun G v M hv m2 => by
    obtain ⟨p, dx, fs, rfl, h1, h2⟩ := wr_pre hv M
    refine ⟨(p, b, figs, last), p, dx, fs, rfl, h1, ⟨rfl, h2⟩, ?_⟩
    rintro G' _ _ e ⟨q, vs, rfl, rfl, hd⟩
    exact ⟨q, vs, M, rfl, rfl, hd, m2.mono e⟩
theorem e_wrVal (h : E1 ta δ μ (WrP K C b figs last) μ1) (hb : -(2 ^ 64) < b ∧ b < 2 ^ 64) : E1 (tProp C (spec (wrGPre K C) fun x M => isV (.int (horner x.2.1 x.2.2.1 x.2.2.2)) M) [] E ta) δ μ (D K (.int (horner b figs last))) μ1 := fun σ G M s mm =>
  ev_propO h s mm fun G v M hv m2 => by
    obtain ⟨p, dx, fs, rfl, h1, h2⟩ := wr_pre hv M
    refine ⟨(p, b, figs, last), p, dx, fs, rfl, h1, ⟨⟨rfl, h2⟩, hb⟩, ?_⟩
    rintro G' _ _ e ⟨rfl, rfl⟩
    exact ⟨.int _, m2.mono e⟩
theorem wrF_rest {b l last : V} : (wrF b l last).lookup ("rest" : Str) = none := wrF_no (by decide +kernel) (by decide +kernel) (by decide +kernel)
theorem e_wrRest (h : E1 ta δ μ (WrP K C b figs last) μ1) (h2 : E1 tb δ μ1 (D K (.int i)) μ2) (hb : -(2 ^ 64) < b ∧ b < 2 ^ 64) (hi : 0 < i) : E1 (tMeth C "rest" (spec (restPre K C) restPost) [] E ta (tCons tb tNil)) δ μ (D K (.int (horner b figs last % i))) μ2 := fun σ G M s mm =>
  ev_methO h (a_cons h2 a_nil) s mm (fun G v M hv m2 => by
    obtain ⟨p, rfl, dx, l, xs, h1, _⟩ := hv
    exact ⟨p, dx, _, rfl, .G h1, wrF_rest⟩) fun G v vs M hv a m2 => by
    obtain ⟨p, dx, fs, rfl, k1, k2⟩ := wr_pre hv M
    match vs, a with
    | [v1], ⟨q1, _⟩ =>
    refine ⟨((p, b, figs, last), i), ⟨by rw [dp_int q1], k2, hb, hi⟩, ?_⟩
    rintro G' v' M' e ⟨rfl, rfl⟩
    exact ⟨.int _, m2.mono e⟩
theorem e_wrSub (h1 : E1 ta δ μ (WrP K C b figs last) μ1) (h2 : E1 tb δ μ1 P2 μ2) (s2 : SR K C2 P2 μ2 b' r' cs') (hb : -(2 ^ 64) < b ∧ b < 2 ^ 64) (hb' : -(2 ^ 64) < b' ∧ b' < 2 ^ 64) (hl : cs'.length ≤ 100000) : E1 (tOp (rBin2 C C2 (spec (wsubPre K C C2) wsubPost) E) ta tb) δ μ (D K (.int (horner b figs last - valueOf b' cs'))) μ2 :=
  e_op h1 h2 fun G H F M x y m mm p1 p2 Q q => by
    obtain ⟨p, dx, fs, rfl, k1, k2⟩ := wr_pre p1 M
    obtain ⟨p', dx', fs', rfl, k3, k4⟩ := s2.pre p2 mm
    refine ⟨p, dx, fs, p', dx', fs', rfl, rfl, k1 G H F (Ex.refl _) m, k3 G H F (Ex.refl _) m, ((p, b, figs, last), (p', b', r', cs')), G, M, F, m, ⟨rfl, k2, k4, hb, hb', hl⟩, ?_⟩
    rintro v G' M' H' e' m' ⟨rfl, rfl⟩
    exact q _ G' _ H' e' m' (.int _) (mm.mono e')
theorem e_wrEq (h1 : E1 ta δ μ (WrP K C b figs last) μ1) (h2 : E1 tb δ μ1 (WrP K C b' figs' last') μ2) : E1 (tOp (rCmpO C (spec (weqPre K C) weqPost) E) ta tb) δ μ (D K (.bool (decide ((b, figs, last) = (b', figs', last'))))) μ2 :=
  e_op h1 h2 fun G H F M x y m mm p1 p2 Q q => by
    obtain ⟨p, dx, fs, rfl, k1, k2⟩ := wr_pre p1 M
    obtain ⟨p', dx', fs', rfl, k3, k4⟩ := wr_pre p2 M
    refine ⟨p, dx, fs, p', dx', fs', rfl, rfl, k1 G H F (Ex.refl _) m, k3 G H F (Ex.refl _) m, ((p, b, figs, last), (p', b', figs', last')), G, M, F, m, ⟨rfl, k2, k4⟩, ?_⟩
    rintro v G' M' H' e' m' ⟨rfl, rfl⟩
    exact q _ G' _ H' e' m' (.bl _) (mm.mono e')
theorem e_mkWr (h1 : E1 ta δ μ (D K (.int b)) μ0) (h2 : E1 tb δ μ0 P μ1) (h3 : E1 tc δ μ1 (D K (.int last)) μ2) (hl : LR K P μ2 (figs.map .int)) : E1 (tMake C (spec (mkWrPre K C) (mkWrPost K C)) [] E (tCons ta (tCons tb (tCons tc tNil)))) δ μ (WrP K C b figs last) μ2 := fun σ G M s mm G1 H F e m1 q z =>
  (a_cons h1 (a_cons h2 (a_cons h3 a_nil))) σ G M s mm G1 H F e m1 _ fun vs G2 M2 H2 e2 m2 a2 r2 => by
    match vs, a2 with
    | [v1, v2, v3], ⟨q1, q2, q3, _⟩ =>
    obtain ⟨a, xs, rfl, hA, hd⟩ := hl G2 v2 M2 q2 r2
    rw [dp_int q1, dp_int q3]
    have k := ev_mkWr (K := K) (σ := σ) (G := G2) (M := M2) (M1 := M2) (tA := fun _ H Q => Q [.int b, .ref a, .int last] H) (E := E) (C := C) (b := b) (last := last) (figs := figs) (Pv := fun _ v => v = .ref a) (fun G1 H F e m Q q => q _ G1 H (Ex.refl _) m ⟨rfl, rfl, rfl, trivial⟩) fun G1 v e h => .inr ⟨a, xs, _, h, rfl, hA.ex e, dma hd e⟩
    refine k G2 H2 F (Ex.refl _) m2 q fun v G3 M3 H3 e3 m3 r3 => ?_
    obtain ⟨r3, rfl⟩ := r3
    exact z v G3 _ H3 (e2.trans e3) m3 ⟨r3, r2.mono e3⟩
end
end SY
set_option Elab.async false
set_option linter.all false
set_option maxRecDepth 100000
namespace SY
open PySem PySem.Spec L2 SX
section
variable {E : XK} {K : PySem.W.Frag} {C : Addr} {te ta tb tc tl : TE} {tA : TA} {δ δ' : En} {μ μ' μ0 μ1 μ2 rest : Mp} {P P1 P2 : Pr} {d e : PyData} {ds es : List PyData} {i j b r lo hi n : Int} {cs : List (List Int)} {figs ns : List Int} {k : Nat} {ad dk : Addr} {f : PyData → Bool} {Dk : Deck}
theorem e_whole (h : EA tA δ μ [D K d, D K (.int lo), D K (.int hi)] μ1) : E1 (tCall (spec (wholePre K) wholePost) [] E tA) δ μ (D K (.bool (isWhole d lo hi))) μ1 := fun σ G M s mm =>
  ev_callO h s mm fun G M vs a m2 => by
    obtain ⟨v, w, u, rfl, p1, p2, p3⟩ := allP3 a
    refine ⟨(d, lo, hi), ⟨v, by rw [dp_int p2, dp_int p3], p1⟩, ?_⟩
    rintro G' v' M' e ⟨rfl, rfl⟩
    exact ⟨.bl _, m2.mono e⟩
theorem e_d1 (h : EA tA δ μ [D K d] μ1) : E1 (tCall (spec (d1Pre K) (b1Post f)) [] E tA) δ μ (D K (.bool (f d))) μ1 := fun σ G M s mm =>
  ev_callO h s mm fun G M vs a m2 => by
    match vs, a with
    | [v], ⟨p1, _⟩ =>
    refine ⟨d, ⟨v, rfl, p1⟩, ?_⟩
    rintro G' v' M' e ⟨rfl, rfl⟩
    exact ⟨.bl _, m2.mono e⟩
theorem e_place (h : EA tA δ μ [D K (.int b), D K (.list (figs.map .int)), D K (.int n)] μ1) (hb : -(2 ^ 64) < b ∧ b < 2 ^ 64) : E1 (tCall (spec (placePre K) placePost) [] E tA) δ μ (D K (.int (horner b figs n))) μ1 := fun σ G M s mm =>
  ev_callO h s mm fun G M vs a m2 => by
    obtain ⟨v, w, u, rfl, p1, p2, p3⟩ := allP3 a
    refine ⟨(b, figs, n), ⟨w, by rw [dp_int p1, dp_int p3], p2, hb⟩, ?_⟩
    rintro G' v' M' e ⟨rfl, rfl⟩
    exact ⟨.int _, m2.mono e⟩
theorem e_power (h : EA tA δ μ [D K (.int b), D K (.int n)] μ1) (hb : -(2 ^ 64) < b ∧ b < 2 ^ 64) (hn : 0 ≤ n ∧ n ≤ 100000) : E1 (tCall (spec powPre powPost) [] E tA) δ μ (D K (.int (b ^ n.toNat))) μ1 := fun σ G M s mm =>
  ev_callO h s mm fun G M vs a m2 => by
    obtain ⟨v, w, rfl, p1, p2⟩ := allP2 a
    refine ⟨(b, n.toNat), ⟨by rw [dp_int p1, dp_int p2]; show _ = [V.int b, V.int ((n.toNat : Nat) : Int)]; rw [Int.toNat_of_nonneg hn.1], hb, by show n.toNat ≤ 100000; omega⟩, ?_⟩
    rintro G' v' M' e ⟨rfl, rfl⟩
    exact ⟨.int _, m2.mono e⟩
theorem e_cells (h : EA tA δ μ [D K (.list (ns.map .int))] μ1) (hl : ns.length ≤ 63) : E1 (tCall (spec (cellsPre K) (cellsPost K)) [] E tA) δ μ (D K (.list ((cellsOf ns).map .int))) μ1 := fun σ G M s mm =>
  ev_callO h s mm fun G M vs a m2 => by
    match vs, a with
    | [v], ⟨p1, _⟩ =>
    refine ⟨ns, ⟨v, rfl, p1, hl⟩, ?_⟩
    rintro G' v' M' e ⟨r, rfl⟩
    exact ⟨r, m2.mono e⟩
/-- the deck stands first -/
theorem y_deck (h : EA tA δ μ [D K (.int n)] []) : EY (tCall (spec deckPre deckPost) [] E tA) δ μ (fun P μ' => ∃ a, P = Av a ∧ μ' = [(a, DKo (deckOf n))]) := fun σ G M s mm =>
  ev_callO h s mm fun G M vs a m2 => by
    match vs, a with
    | [v], ⟨p1, _⟩ =>
    refine ⟨n, by rw [dp_int p1], ?_⟩
    rintro G' v' M' e ⟨dk, rfl, rfl⟩
    have := m2.nil
    subst this
    exact ⟨_, _, ⟨dk, rfl, rfl⟩, rfl, ⟨⟨rfl, rfl⟩, trivial⟩⟩
theorem head_dk {G : Hp} {M : Mem} (m2 : Mm G M ((dk, DKo Dk) :: rest)) : ∃ M0, M = (dk, Dk.ho) :: M0 ∧ Mm G M0 rest := by
  match M, m2 with
  | (b, o) :: M0, ⟨⟨h1, h2⟩, h3⟩ =>
    have h1 : b = dk := h1
    have h2 : o = Dk.ho := h2
    subst h1 h2
    exact ⟨M0, rfl, h3⟩
theorem e_draw (h : EA tA δ μ [Av dk, D K (.int n)] ((dk, DKo Dk) :: rest)) (hn : 0 < n ∧ n < 2 ^ 200) : E1 (tCall (spec drawPre drawPost) [] E tA) δ μ (D K (.int (dv Dk n))) ((dk, DKo (dn Dk n)) :: rest) := fun σ G M s mm =>
  ev_callO h s mm fun G M vs a m2 => by
    obtain ⟨v, w, rfl, p1, p2⟩ := allP2 a
    obtain ⟨M0, rfl, m3⟩ := head_dk m2
    have p1 : v = .ref dk := p1
    subst p1
    refine ⟨(dk, 0, Dk, n), ⟨by rw [dp_int p2], hn.1, hn.2, rfl⟩, ?_⟩
    rintro G' v' M' e ⟨rfl, rfl⟩
    exact ⟨.int _, ⟨rfl, rfl⟩, m3.mono e⟩
theorem e_lcol (h : EA tA δ μ [Av dk, D K (.int b), D K (.int r)] ((dk, DKo Dk) :: rest)) (hb : 0 < b ∧ b < 2 ^ 200) (hr : 0 ≤ r ∧ r ≤ 1000) : E1 (tCall (spec lcolPre (lcolPost K)) [] E tA) δ μ (D K (colD (colOf Dk b r))) ((dk, DKo (colDk Dk b r)) :: rest) := fun σ G M s mm =>
  ev_callO h s mm fun G M vs a m2 => by
    obtain ⟨v, w, u, rfl, p1, p2, p3⟩ := allP3 a
    obtain ⟨M0, rfl, m3⟩ := head_dk m2
    have p1 : v = .ref dk := p1
    subst p1
    refine ⟨(dk, 0, Dk, b, r), ⟨by rw [dp_int p2, dp_int p3], hb.1, hb.2, hr.1, hr.2, rfl⟩, ?_⟩
    rintro G' v' M' e ⟨r, rfl⟩
    exact ⟨r, ⟨rfl, rfl⟩, m3.mono e⟩
theorem o_lcols {most : Int} (h : EA tA δ μ [Av dk, D K (.int b), D K (.int r), D K (.int most)] ((dk, DKo Dk) :: rest)) (hb : 0 < b ∧ b < 2 ^ 200) (hr : 0 ≤ r ∧ r ≤ 1000) (hm : 0 ≤ most ∧ most ≤ 1000) : EO K (tCall (spec lcolsPre (lcolsPost K)) [] E tA) δ μ ((colsOf Dk b r most).map colD) ((dk, DKo (colsEnd Dk b r most)) :: rest) := fun σ G M s mm =>
  ev_callO h s mm fun G M vs a m2 => by
    obtain ⟨v, w, u, x, rfl, p1, p2, p3, p4⟩ := allP4 a
    obtain ⟨M0, rfl, m3⟩ := head_dk m2
    have p1 : v = .ref dk := p1
    subst p1
    refine ⟨(dk, 0, Dk, b, r, most), ⟨by rw [dp_int p2, dp_int p3, dp_int p4], hb.1, hb.2, hr.1, hr.2, hm.1, hm.2, rfl⟩, ?_⟩
    rintro G' v' M' e ⟨p, vs, rfl, rfl, hd⟩
    exact ⟨p, vs, (dk, (colsEnd Dk b r most).ho) :: M0, rfl, rfl, hd, ⟨rfl, rfl⟩, m3.mono e⟩
end
theorem law_Y {P : Program} {w : World} {K : PySem.W.Frag} {mg : Str → Option Value} {base : Heap} {x qual : Str} {st : Stmt} {f : Addr} {fd : FuncData} {N ps : List Str} {k : Nat} (F : Fun K x qual st f fd) (S : FnScope N ps (defScope st)) (hps : ps.length = 1)
    (body : ∀ (cdv : Value) (Ar : Around) (outer : List Env) (s : Shared) (H : Hp) (E : XK), Room k (Ar.deeper (PyProof.Rows.envOfC qual (defScope st) s.heap.objs.size f cdv)) →
      ∃ t, PSs (cxOf CX0 P w K mg base N qual (defScope st) f cdv Ar outer s H E).nox (defBody st) t ∧ ∀ ns : List Int, ns.length ≤ 63 → S1 E t (startY N [D K (.list (ns.map .int))]) [] { nx := fun _ _ => False, rt := fun Q _ => Q = D K (.bool true) }) :
    FnOk P w K mg base CX0 (k + 1) f fd ps (spec (lawPre K) lawPost) := by
  refine fn_sv F S (fun x G M vs h => by obtain ⟨v, rfl, _⟩ := h; rw [hps]; rfl) fun cdv Ar outer s H E hr => ?_
  obtain ⟨t, ht, hs⟩ := body cdv Ar outer s H E hr
  refine ⟨t, ht, ?_⟩
  rintro ns G M vs ⟨v, rfl, hv, hl, rfl⟩ G1 H F DD e m1 hd
  refine hs ns hl _ G [] (sl_start (Ps := [D K (.list (ns.map .int))]) (vs := [v]) ⟨hv, trivial⟩) trivial G1 H F DD e m1 ⟨?_, ?_, ?_, ?_, ?_⟩
  · rintro σ2 G2 M2 H2 e2 m2 ⟨_, _, n0, _⟩
    exact n0.elim
  · rintro v G2 M2 H2 e2 m2 ⟨Q2, μ2, rfl, n1, n2⟩
    exact hd.rt v G2 M2 H2 e2 m2 (dp_bl n1)
  · rintro σ2 G2 M2 H2 e2 m2 ⟨_, _, n0, _⟩
    exact n0.elim
  · rintro σ2 G2 M2 H2 e2 m2 ⟨_, _, n0, _⟩
    exact n0.elim
  · rintro c d G2 M2 H2 e2 m2 ⟨_, n0, _⟩
    exact n0.elim
end SY
set_option Elab.async false
set_option linter.all false
set_option maxRecDepth 100000
namespace SY
open PySem PySem.Spec L2 SX
theorem yes_if {p q : Prop} (h : p) : if true = true then p else q := by rw [if_pos rfl]; exact h
section
variable {K : PySem.W.Frag} {te ta tb tl : TE} {tt tt1 : TT} {δ : En} {μ μ1 : Mp} {d : PyData} {g g1 : TG} {vs vs1 : List Nat} {wi wi1 : TI} {X : Nat → Pr}
/-- [e for x in l for y in f(x)], what is owned stays -/
theorem o_lc2 {α : Type} {xs : List α} {en : α → Pr} {ys : α → List PyData} {N : Nat} (hw : IY wi δ μ xs.length X μ1) (hX : ∀ (i : Nat) x, xs[i]? = some x → X i = en x) (hN : ∀ x ∈ xs, (ys x).length ≤ N) (hn : xs.length * N ≤ 100000)
    (hb : ∀ x, x ∈ xs → ∃ δ'', G1 g (en x) (wipeY δ vs) δ'' vs ∧ ∃ Y : Nat → Pr, IY wi1 δ'' μ1 (ys x).length Y μ1 ∧ ∀ (j : Nat) y, (ys x)[j]? = some y → ∃ δ3, G1 g1 (Y j) (wipeY δ'' vs1) δ3 vs1 ∧ E1 te δ3 μ1 (D K y) μ1) :
    EO K (tLc2 wi g tYes wi1 g1 tYes te vs vs1) δ μ (xs.flatMap ys) μ1 := fun σ G M s m G1 H F e m1 Q q =>
  hw σ G M s m G1 H F e m1 _ fun J G2 M2 H2 e2 m2 r2 => by
    rintro ⟨⟨Gd, Y, W, hG, hY⟩⟩ D hD
    -- Pv i: the items of the first i
    let Pv : Nat → Hp → Prop := fun i H' => ∃ G' M' ws, Ex G2 G' ∧ Me G' (M' ++ (D, .lst ws) :: F) H' ∧ Mm G' M' μ1 ∧ DpAll K G' ws ((xs.take i).flatMap ys)
    refine ⟨fun i m H => m = xs.length - i ∧ i ≤ xs.length ∧ Pv i H, ⟨xs.length, by simp, Nat.zero_le _, G2, M2, [], Ex.refl G2, by rw [mem_mid]; exact m2.newMid hD, r2, by simp; exact .nil⟩, ?_⟩
    rintro i m H' ⟨rfl, hi, G', M', ws, e', m', r', da⟩
    have hGd := hG G' M' _ H' [] e' m' (List.nil_sublist _) (show Mm G' [] [] from trivial)
    by_cases hlt : i < xs.length
    · refine .inr ⟨W.goes i H' hlt hGd, Pv (i + 1), fun H'' p' => ⟨xs.length - (i + 1), by omega, rfl, hlt, p'⟩, fun x H4 y => ?_⟩
      have hx : xs[i]? = some xs[i] := List.getElem?_eq_getElem hlt
      obtain ⟨G4, e4, m4, px⟩ := hY i G' M' _ H' x H4 [] hlt e' m' (List.nil_sublist _) (show Mm G' [] [] from trivial) (W.yields i H' x H4 hlt hGd y)
      rw [hX i _ hx] at px
      obtain ⟨δ'', hg, Yj, hw1, hb1⟩ := hb xs[i] (List.getElem_mem hlt)
      have s4 : Sl G4 (L2.wipe σ vs) (wipeY δ vs) := (s.mono (((e.trans e2).trans e').trans e4)).wipe vs
      refine hg _ G4 M' _ H4 x s4 px m4 _ fun σ5 s5 w5 => ⟨by rw [w5.wipe, wipe_wipe], ?_⟩
      unfold tYes
      refine yes_if ?_
      refine hw1 σ5 G4 M' s5 (r'.mono e4) G4 H4 _ (Ex.refl _) m4 _ fun J1 G5 M5 H5 e5 m5 r5 => ?_
      rintro ⟨⟨Gd1, Y1, W1, hG1, hY1⟩⟩
      have hlen : ws.length ≤ i * N := by
        rw [dpa_len da]
        have : ∀ k, k ≤ xs.length → ((xs.take k).flatMap ys).length ≤ k * N := fun k => by
          induction k with
          | zero => intro _; simp
          | succ k ih =>
            intro hk
            have hk' : xs[k]? = some xs[k] := List.getElem?_eq_getElem (by omega)
            rw [List.take_add_one, hk', Option.toList, List.flatMap_append, List.length_append]
            simp only [List.flatMap_cons, List.flatMap_nil, List.append_nil]
            have := ih (by omega)
            have := hN _ (List.getElem_mem (show k < xs.length by omega))
            rw [Nat.succ_mul]
            omega
        exact this i hi
      have hNi := hN _ (List.getElem_mem hlt)
      have hmul : (i + 1) * N ≤ 100000 := Nat.le_trans (Nat.mul_le_mul_right N hlt) hn
      rw [Nat.succ_mul] at hmul
      refine ⟨fun j m H => m = (ys xs[i]).length - j ∧ j ≤ (ys xs[i]).length ∧ ∃ G' M' ws', Ex G5 G' ∧ Me G' (M' ++ (D, .lst ws') :: F) H ∧ Mm G' M' μ1 ∧ ws'.length = ws.length + j ∧ DpAll K G' ws' ((xs.take i).flatMap ys ++ (ys xs[i]).take j), ⟨_, rfl, Nat.zero_le _, G5, M5, ws, Ex.refl G5, m5, r5, rfl, by simp; exact dma da (e4.trans e5)⟩, ?_⟩
      rintro j m H6 ⟨rfl, hj, G6, M6, ws6, e6, m6, r6, hl6, da6⟩
      have hGd1 := hG1 G6 M6 _ H6 [] e6 m6 (List.nil_sublist _) (show Mm G6 [] [] from trivial)
      by_cases hltj : j < (ys xs[i]).length
      · refine .inr ⟨W1.goes j H6 hltj hGd1, fun H => j + 1 ≤ (ys xs[i]).length ∧ ∃ G' M' ws', Ex G5 G' ∧ Me G' (M' ++ (D, .lst ws') :: F) H ∧ Mm G' M' μ1 ∧ ws'.length = ws.length + (j + 1) ∧ DpAll K G' ws' ((xs.take i).flatMap ys ++ (ys xs[i]).take (j + 1)), fun H'' p' => ⟨_, by omega, rfl, p'.1, p'.2⟩, fun x H7 y => ?_⟩
        have hy : (ys xs[i])[j]? = some (ys xs[i])[j] := List.getElem?_eq_getElem hltj
        obtain ⟨G7, e7, m7, py⟩ := hY1 j G6 M6 _ H6 x H7 [] hltj e6 m6 (List.nil_sublist _) (show Mm G6 [] [] from trivial) (W1.yields j H6 x H7 hltj hGd1 y)
        obtain ⟨δ3, hg3, he3⟩ := hb1 j _ hy
        have s7 : Sl G7 (L2.wipe σ5 vs1) (wipeY δ'' vs1) := (s5.mono ((e5.trans e6).trans e7)).wipe vs1
        refine hg3 _ G7 M6 _ H7 x s7 py m7 _ fun σ8 s8 w8 => ⟨by rw [w8.wipe, wipe_wipe], ?_⟩
        refine yes_if ?_
        refine he3 σ8 G7 M6 s8 (r6.mono e7) G7 H7 _ (Ex.refl _) m7 _ fun z G8 M8 H8 e8 m8 r8 => ?_
        have hm : (M8 ++ (D, HO.lst ws6) :: F)[M8.length]? = some (D, .lst ws6) := by
          rw [List.getElem?_append_right (Nat.le_refl _), Nat.sub_self]
          rfl
        refine ⟨ws6, m8.get hm, sz_ok (by omega), hltj, G8, M8, ws6 ++ [z], (e6.trans e7).trans e8, ?_, r8.2, by simp [hl6]; omega, ?_⟩
        · have := m8.put (o' := .lst (ws6 ++ [z])) hm
          rw [List.set_append_right _ _ (Nat.le_refl _), Nat.sub_self] at this
          exact this
        · rw [List.take_add_one, hy, Option.toList, ← List.append_assoc]
          exact dpa_app (dma da6 (e7.trans e8)) (.cons r8.1 .nil)
      · have : j = (ys xs[i]).length := by omega
        subst this
        refine .inl ⟨W1.stops H6 hGd1, G6, M6, ws6, ((e'.trans e4).trans e5).trans e6, m6, r6, ?_⟩
        rw [List.take_length] at da6
        rw [List.take_add_one, hx, Option.toList, List.flatMap_append]
        simpa using da6
    · have : i = xs.length := by omega
      subst this
      rw [List.take_length] at da
      rw [mem_mid] at m'
      exact .inl ⟨W.stops H' hGd, q _ G' _ H' (e2.trans e') m' ⟨D, ws, M', rfl, rfl, da, r'⟩⟩
/-- isinstance(x, (int, str)) -/
theorem e_isiT2 (h : E1 ta δ μ (D K d) μ1) : E1 (tCB (rIsiT K) (tCons ta (tCons (tTup (tCons (tC (.ty "int")) (tCons (tC (.ty "str")) tNil))) tNil))) δ μ (D K (.bool (isTy d "int" || isTy d "str"))) μ1 :=
  e_CB (a_cons h (a_cons (e_tupP (a_cons (e_cst (P := Cv (.ty "int")) fun _ => rfl) (a_cons (e_cst (P := Cv (.ty "str")) fun _ => rfl) a_nil)) (by simp)) a_nil)) fun G H F M vs m mm p Q q => by
    match vs, p with
    | [v, c], ⟨p1, pt, _⟩ =>
      obtain ⟨tp, ws, rfl, p2, p3⟩ := pt
      match ws, p3 with
      | [w1, w2], ⟨q1, q2, _⟩ =>
      have q1 : w1 = .ty "int" := q1
      have q2 : w2 = .ty "str" := q2
      subst q1 q2
      have p1 : Dp K G v d := p1
      refine ⟨v, tp, [.ty "int", .ty "str"], .type (tyName d), [.type "int", .type "str"], (isTy d "int" || isTy d "str"), rfl, m.ex _ _ p2, .cons (.ty "int") (.cons (.ty "str") .nil), tyx_of (dm p1 m.ex), kitAny_cons (b := isTy d "int") (kit_ty ?_) (fun hb => kitAny_cons (b := isTy d "str") (kit_ty ?_) (fun hb2 => ?_) (fun hb2 => ?_)) (fun hb => ?_), q _ G M H (Ex.refl _) m (.bl _) mm⟩
      · unfold isTy
        cases p1 <;> dsimp only [tyName] <;> decide +kernel
      · unfold isTy
        cases p1 <;> dsimp only [tyName] <;> decide +kernel
      · rw [hb, hb2]
        rfl
      · rw [hb2]
        simp
      · rw [hb]
        rfl
end
def offsOf (b : Int) : List Deed := ((List.range (b - 1).toNat).map fun (n : Nat) => 1 + (n : Int)).map Deed.off
def readsOf (b r : Int) : List Deed := (List.range r.toNat).flatMap fun (j : Nat) => ((List.range (b - 1).toNat).map fun (n : Nat) => 1 + (n : Int)).map (Deed.read (j : Int))
def copiesOf (r : Int) : List Deed := (List.range r.toNat).map fun (j : Nat) => Deed.copy (j : Int)
def allDeeds (b r : Int) : List Deed := [.forget, .again] ++ (offsOf b ++ (readsOf b r ++ (copiesOf r ++ [.swap, .out, .twice])))
theorem offsOf_len (b : Int) : (offsOf b).length = (b - 1).toNat := by simp [offsOf]
theorem readsOf_len (b r : Int) : (readsOf b r).length = r.toNat * (b - 1).toNat := by
  unfold readsOf
  rw [List.length_flatMap]
  simp [List.map_const']
theorem copiesOf_len (r : Int) : (copiesOf r).length = r.toNat := by simp [copiesOf]
end SY
set_option Elab.async false
set_option linter.all false
set_option maxRecDepth 100000
namespace SY
open PySem PySem.Spec L2 SX
def slipD (s : Int × Deed) : PyData := .tuple [.int s.1, deedD s.2]
theorem mem_offs {b : Int} {x : Deed} : x ∈ offsOf b ↔ ∃ d, x = .off d ∧ 1 ≤ d ∧ d < b := by
  unfold offsOf
  simp only [List.mem_map, List.mem_range]
  constructor
  · rintro ⟨_, ⟨n, hn, rfl⟩, rfl⟩
    exact ⟨_, rfl, by omega, by omega⟩
  · rintro ⟨d, rfl, h1, h2⟩
    exact ⟨d, ⟨(d - 1).toNat, by omega, by omega⟩, rfl⟩
theorem mem_reads {b r : Int} {x : Deed} : x ∈ readsOf b r ↔ ∃ j d, x = .read j d ∧ 0 ≤ j ∧ j < r ∧ 1 ≤ d ∧ d < b := by
  unfold readsOf
  simp only [List.mem_flatMap, List.mem_map, List.mem_range]
  constructor
  · rintro ⟨j, hj, _, ⟨n, hn, rfl⟩, rfl⟩
    exact ⟨(j : Int), 1 + (n : Int), rfl, Int.natCast_nonneg j, by omega, by omega, by omega⟩
  · rintro ⟨j, d, rfl, h1, h2, h3, h4⟩
    exact ⟨j.toNat, by omega, d, ⟨(d - 1).toNat, by omega, by omega⟩, by rw [Int.toNat_of_nonneg h1]⟩
theorem mem_copies {r : Int} {x : Deed} : x ∈ copiesOf r ↔ ∃ j, x = .copy j ∧ 0 ≤ j ∧ j < r := by
  unfold copiesOf
  simp only [List.mem_map, List.mem_range]
  constructor
  · rintro ⟨j, hj, rfl⟩
    exact ⟨(j : Int), rfl, Int.natCast_nonneg j, by omega⟩
  · rintro ⟨j, rfl, h1, h2⟩
    exact ⟨j.toNat, by omega, by rw [Int.toNat_of_nonneg h1]⟩
theorem mem_all {b r : Int} {x : Deed} : x ∈ allDeeds b r ↔ x = .forget ∨ x = .again ∨ (∃ d, x = .off d ∧ 1 ≤ d ∧ d < b) ∨ (∃ j d, x = .read j d ∧ 0 ≤ j ∧ j < r ∧ 1 ≤ d ∧ d < b) ∨ (∃ j, x = .copy j ∧ 0 ≤ j ∧ j < r) ∨ x = .swap ∨ x = .out ∨ x = .twice := by
  unfold allDeeds
  simp only [List.mem_append, List.mem_cons, List.not_mem_nil, or_false, mem_offs, mem_reads, mem_copies]
  constructor
  · rintro ((h | h) | h | h | h | h | h | h)
    · exact .inl h
    · exact .inr (.inl h)
    · exact .inr (.inr (.inl h))
    · exact .inr (.inr (.inr (.inl h)))
    · exact .inr (.inr (.inr (.inr (.inl h))))
    · exact .inr (.inr (.inr (.inr (.inr (.inl h)))))
    · exact .inr (.inr (.inr (.inr (.inr (.inr (.inl h))))))
    · exact .inr (.inr (.inr (.inr (.inr (.inr (.inr h))))))
  · rintro (h | h | h | h | h | h | h | h)
    · exact .inl (.inl h)
    · exact .inl (.inr h)
    · exact .inr (.inl h)
    · exact .inr (.inr (.inl h))
    · exact .inr (.inr (.inr (.inl h)))
    · exact .inr (.inr (.inr (.inr (.inl h))))
    · exact .inr (.inr (.inr (.inr (.inr (.inl h)))))
    · exact .inr (.inr (.inr (.inr (.inr (.inr h)))))
theorem eqv_plain : ∀ {ds es : List PyData}, (∀ d ∈ ds, ∃ i s, d = .int i ∨ d = .str s) → (∀ d ∈ es, ∃ i s, d = .int i ∨ d = .str s) → (PyData.eqvAll ds es = true ↔ ds = es)
  | [], [], _, _ => by simp [PyData.eqvAll]
  | [], _ :: _, _, _ => by simp [PyData.eqvAll]
  | _ :: _, [], _, _ => by simp [PyData.eqvAll]
  | d :: ds, e :: es, h1, h2 => by
    have ih := eqv_plain (ds := ds) (es := es) (fun x hx => h1 x (List.mem_cons_of_mem _ hx)) fun x hx => h2 x (List.mem_cons_of_mem _ hx)
    obtain ⟨i, s, h3⟩ := h1 d List.mem_cons_self
    obtain ⟨j, t, h4⟩ := h2 e List.mem_cons_self
    show (PyData.eqv d e && PyData.eqvAll ds es) = true ↔ _
    rw [Bool.and_eq_true, ih]
    rcases h3 with rfl | rfl <;> rcases h4 with rfl | rfl <;> simp [PyData.eqv]
theorem deedD_inj {x y : Deed} (h : deedD x = deedD y) : x = y := by
  have h : x.L = y.L := by injection h
  cases x <;> cases y <;> first | rfl | (exfalso; simp only [Deed.L, List.cons.injEq, PyData.str.injEq] at h; exact absurd h.1 (by decide)) | (simp only [Deed.L, List.cons.injEq, PyData.int.injEq, and_true, true_and] at h; simp_all; done) | (exfalso; simp only [Deed.L, List.cons.injEq, PyData.str.injEq, and_true] at h; exact absurd h (by decide))
end SY
namespace SY
open PySem PySem.Spec L2 SX
theorem sIx_nn (n d : Nat) {i : Int} (h : 0 ≤ i) : HT.sIx n d (some i) = min i.toNat n := by
  show (if i < 0 then _ else _) = _
  rw [if_neg (by omega)]
theorem cutG_lo {α : Type} (xs : List α) {lo : Int} (h0 : 0 ≤ lo) : cutG xs (some lo) none = xs.drop lo.toNat := by
  unfold cutG
  rw [sIx_nn _ _ h0, HT.sIx_none]
  by_cases h : lo.toNat ≤ xs.length
  · rw [Nat.min_eq_left h, List.take_of_length_le (by rw [List.length_drop]; exact Nat.le_refl _)]
  · rw [Nat.min_eq_right (by omega), List.drop_of_length_le (Nat.le_refl _), List.drop_of_length_le (by omega), List.take_nil]
theorem cutG_hi {α : Type} (xs : List α) {hi : Int} (h0 : 0 ≤ hi) : cutG xs none (some hi) = xs.take hi.toNat := by
  unfold cutG
  rw [sIx_nn _ _ h0, HT.sIx_none, Nat.sub_zero, List.drop_zero]
  by_cases h : hi.toNat ≤ xs.length
  · rw [Nat.min_eq_left h]
  · rw [Nat.min_eq_right (by omega), List.take_length, List.take_of_length_le (by omega)]
theorem cutG_two {α : Type} (xs : List α) {lo hi : Int} (h0 : 0 ≤ lo) (h1 : 0 ≤ hi) : cutG xs (some lo) (some hi) = (xs.take hi.toNat).drop lo.toNat := by
  unfold cutG
  rw [sIx_nn _ _ h0, sIx_nn _ _ h1, List.drop_take]
  by_cases h : lo.toNat ≤ xs.length
  · rw [Nat.min_eq_left h]
    by_cases h' : hi.toNat ≤ xs.length
    · rw [Nat.min_eq_left h']
    · rw [Nat.min_eq_right (by omega)]
      rw [List.take_of_length_le (by simp), List.take_of_length_le (by simp; omega)]
  · rw [List.drop_of_length_le (show xs.length ≤ min lo.toNat xs.length by omega), List.drop_of_length_le (show xs.length ≤ lo.toNat by omega), List.take_nil, List.take_nil]
end SY
namespace SY
open PySem PySem.Spec L2 SX
end SY
namespace SY
open PySem PySem.Spec L2 SX
theorem sh_str {n : Nat} {s : Str} (h : PyData.canLay0 (.str s) = true) : Sh n (.str s) := ⟨h, Nat.zero_le _⟩
theorem sh_deed {n : Nat} (x : Deed) : Sh (n + 1) (deedD x) := sh_tup fun d hd => by
  cases x <;> simp only [Deed.L, List.mem_cons, List.not_mem_nil, or_false] at hd
  all_goals (first | (rcases hd with rfl | rfl | rfl) | (rcases hd with rfl | rfl) | subst hd) <;> first | exact sh_str (by decide +kernel) | exact sh_int _
theorem sh_slip {n : Nat} (s : Int × Deed) : Sh (n + 2) (slipD s) := sh_tup fun d hd => by
  simp only [List.mem_cons, List.not_mem_nil, or_false] at hd
  rcases hd with rfl | rfl
  · exact sh_int _
  · exact sh_deed _
end SY
set_option Elab.async false
set_option linter.all false
set_option maxRecDepth 100000
namespace SY
open PySem PySem.Spec L2 SX
section
variable {E : XK} {K : PySem.W.Frag} {C : Addr} {ta tb tc : TE} {tA : TA} {δ : En} {μ μ1 : Mp} {P : Pr} {b : Int} {cs : List (List Int)}
theorem e_lv (h : EA tA δ μ [D K (.int b), P] μ1) (hl : LR K P μ1 (cs.map colD)) (h2 : ∀ c ∈ cs, -(2 ^ 64) < c.sum ∧ c.sum < 2 ^ 64) (hb : -(2 ^ 64) < b ∧ b < 2 ^ 64) : E1 (tCall (spec (lvPre K) lvPost) [] E tA) δ μ (D K (.int (valueOf b cs))) μ1 := fun σ G M s mm =>
  ev_callO h s mm fun G M vs a m2 => by
    obtain ⟨v, w, rfl, p1, p2⟩ := allP2 a
    obtain ⟨ad, xs, rfl, h3, h4⟩ := hl G w M p2 m2
    refine ⟨(b, ad, cs), ⟨by rw [dp_int p1], ⟨⟨xs, h3, h4⟩⟩, h2, hb⟩, ?_⟩
    rintro G' v' M' e ⟨rfl, rfl⟩
    exact ⟨.int _, m2.mono e⟩
end
end SY
namespace SY
open PySem PySem.Spec L2 SX
section
variable {K : PySem.W.Frag} {ta : TE} {δ : En} {μ μ1 : Mp} {P : Pr} {ds : List PyData}
theorem e_eqNil (h : E1 ta δ μ P μ1) (hl : LR K P μ1 ds) (hs : SeqAt.shaped (.list ds) = true) : E1 (tOp (rEqD K) ta (tLst tNil)) δ μ (D K (.bool ds.isEmpty)) μ1 :=
  e_eqD h (EO.frz (o_lst (K := K) d_nil (by decide))) (dr_L hl) dr_D hs (by decide) (by cases ds <;> rfl)
theorem e_neNil (h : E1 ta δ μ P μ1) (hl : LR K P μ1 ds) (hs : SeqAt.shaped (.list ds) = true) : E1 (tOp (rNeD K) ta (tLst tNil)) δ μ (D K (.bool (!ds.isEmpty))) μ1 :=
  e_neD h (EO.frz (o_lst (K := K) d_nil (by decide))) (dr_L hl) dr_D hs (by decide) (by cases ds <;> rfl)
end
end SY
namespace SY
open PySem PySem.Spec L2 SX
end SY
namespace SY
open PySem PySem.Spec L2 SX
end SY
set_option Elab.async false
set_option linter.all false
set_option maxRecDepth 100000
namespace SY
open PySem PySem.Spec L2 SX
section
variable {K : PySem.W.Frag} {te ta tb : TE} {δ : En} {μ μ1 : Mp} {P1 : Pr} {α : Type} {enc : α → PyData} {xs : List α} {lo hi : Int}
theorem o_listC {c : List Int} (h : E1 ta δ μ (D K (colD c)) μ1) : EO K (tCB (rListS K) (tCons ta tNil)) δ μ (c.map .int) μ1 := o_listT h
theorem e_ixCI {c : List Int} {i : Int} {μ2 : Mp} (h1 : E1 ta δ μ (D K (colD c)) μ1) (h2 : E1 tb δ μ1 (D K (.int i)) μ2) (h : 0 ≤ i ∧ i < c.length) : E1 (tOp (rIxT K) ta tb) δ μ (D K (.int (c.getD i.toNat 0))) μ2 := e_ixTI h1 h2 h
theorem e_ixLD {i : Int} {μ2 : Mp} {xs : List Deed} (h1 : E1 ta δ μ P1 μ1) (h2 : E1 tb δ μ1 (D K (.int i)) μ2) (hl : LR K P1 μ2 (xs.map deedD)) (h : 0 ≤ i ∧ i < xs.length) : E1 (tOp (rIxL K) ta tb) δ μ (D K (deedD (xs.getD i.toNat .right))) μ2 := e_ixLM .right h1 h2 hl h
theorem e_lenC {c : List Int} (h : E1 ta δ μ (D K (colD c)) μ1) : E1 (tCB (rLenS K) (tCons ta tNil)) δ μ (D K (.int (c.length : Int))) μ1 := by
  have := e_lenT (K := K) h
  rw [List.length_map] at this
  exact this
theorem o_cut2 (h : E1 te δ μ P1 μ1) (hl : E1 ta δ μ1 (D K (.int lo)) μ1) (hh : E1 tb δ μ1 (D K (.int hi)) μ1) (l : LR K P1 μ1 (xs.map enc)) (h0 : 0 ≤ lo) (h1 : 0 ≤ hi) : EO K (tSl (rSlL K) te (tPart ta) (tPart tb)) δ μ (((xs.take hi.toNat).drop lo.toNat).map enc) μ1 := by
  rw [← cutG_two _ h0 h1]
  exact o_slM h (y_some hl) (y_some hh) l
theorem o_cutL (h : E1 te δ μ P1 μ1) (hl : E1 ta δ μ1 (D K (.int lo)) μ1) (l : LR K P1 μ1 (xs.map enc)) (h0 : 0 ≤ lo) : EO K (tSl (rSlL K) te (tPart ta) tNoPart) δ μ ((xs.drop lo.toNat).map enc) μ1 := by
  rw [← cutG_lo _ h0]
  exact o_slM h (y_some hl) y_none l
theorem o_cutH (h : E1 te δ μ P1 μ1) (hh : E1 tb δ μ1 (D K (.int hi)) μ1) (l : LR K P1 μ1 (xs.map enc)) (h1 : 0 ≤ hi) : EO K (tSl (rSlL K) te tNoPart (tPart tb)) δ μ ((xs.take hi.toNat).map enc) μ1 := by
  rw [← cutG_hi _ h1]
  exact o_slM h y_none (y_some hh) l
end
end SY
namespace SY
open PySem PySem.Spec L2 SX
section
variable {K : PySem.W.Frag} {te ta tb : TE} {δ : En} {μ μ1 : Mp} {P : Pr} {C C' : Addr} {b : Bool}
/-- an instance of C -/
def InsY (C : Addr) (P : Pr) (μ : Mp) : Prop := ∀ G v M, P.p G v → Mm G M μ → ∃ p dx fs, v = .ref p ∧ At G M p (.ins C dx fs)
theorem e_isiO (h : E1 ta δ μ P μ1) (ic : IsCls K C) (cl : Cls K C) (hk : PySem.W.kitOne K (.ref C) (.ref C') = some b) (hp : InsY C P μ1) : E1 (tCB (rIsi K) (tCons ta (tCons (tC (.ref C')) tNil))) δ μ (D K (.bool b)) μ1 :=
  e_CB (a_cons h (a_cons (e_cst (P := Cv (.ref C')) fun _ => rfl) a_nil)) fun G H F M vs m mm p Q q => by
    match vs, p with
    | [v, c], ⟨p1, p2, _⟩ =>
      have p2 : c = .ref C' := p2
      subst p2
      obtain ⟨p0, dx, fs, rfl, h3⟩ := hp G v M p1 mm
      exact ⟨.ref p0, .ref C', .ref C, .ref C', b, rfl, .own C', .base (.ins (h3 G H F (Ex.refl _) m) cl ic.ha ic.hn ic.ht ic.hm), hk, q _ G M H (Ex.refl _) m (.bl _) mm⟩
theorem ins_wr {b0 last : Int} {figs : List Int} {μ : Mp} : InsY C (WrP K C b0 figs last) μ := fun G v M h _ => by
  obtain ⟨p, dx, fs, rfl, h1, _⟩ := wr_pre h M
  exact ⟨p, dx, fs, rfl, h1⟩
theorem ins_sh {b0 r : Int} {cs : List (List Int)} {μ : Mp} (h : SR K C P μ b0 r cs) : InsY C P μ := fun G v M hv mm => by
  obtain ⟨p, dx, fs, rfl, h1, _⟩ := h.pre hv mm
  exact ⟨p, dx, fs, rfl, h1⟩
end
end SY
namespace SY
open PySem PySem.Spec L2 SX
theorem eqv_same {d : PyData} (h : SeqAt.shaped d = true) : PyData.eqv d d = true := SeqAt.eqv_refl d (SeqAt.canLay_of_shaped h)
theorem shd_slips (sl : List (Int × Deed)) : SeqAt.shaped (.list (sl.map slipD)) = true := (sh_lst (n := 2) fun x hx => by
  obtain ⟨y, _, rfl⟩ := List.mem_map.mp hx
  exact sh_slip (n := 0) _).ok
theorem shd_deeds (ds : List Deed) : SeqAt.shaped (.list (ds.map deedD)) = true := (sh_lst (n := 1) fun x hx => by
  obtain ⟨y, _, rfl⟩ := List.mem_map.mp hx
  exact sh_deed (n := 0) _).ok
end SY
namespace SY
open PySem PySem.Spec L2 SX
section
variable {K : PySem.W.Frag} {ta : TE} {δ : En} {μ μ1 : Mp} {s : Int × Deed}
theorem e_ixS0 (h : E1 ta δ μ (D K (slipD s)) μ1) : E1 (tOp (rIxT K) ta (tC (.int 0))) δ μ (D K (.int s.1)) μ1 := e_ixT (ds := [.int s.1, deedD s.2]) h e_cI rfl
theorem e_ixS1 (h : E1 ta δ μ (D K (slipD s)) μ1) : E1 (tOp (rIxT K) ta (tC (.int 1))) δ μ (D K (deedD s.2)) μ1 := e_ixT (ds := [.int s.1, deedD s.2]) h e_cI rfl
end
end SY
namespace SY
open PySem PySem.Spec L2 SX
theorem plain_deed (x : Deed) : ∀ d ∈ x.L, ∃ i s, d = PyData.int i ∨ d = .str s := fun d hd => by
  cases x <;> simp only [Deed.L, List.mem_cons, List.not_mem_nil, or_false] at hd
  all_goals (first | (rcases hd with rfl | rfl | rfl) | (rcases hd with rfl | rfl) | subst hd) <;> first | exact ⟨0, _, .inr rfl⟩ | exact ⟨_, "", .inl rfl⟩
theorem eqv_deed (x y : Deed) : PyData.eqv (deedD x) (deedD y) = decide (x = y) := by
  rw [Bool.eq_iff_iff, decide_eq_true_eq]
  show PyData.eqvAll x.L y.L = true ↔ _
  rw [eqv_plain (plain_deed x) (plain_deed y)]
  exact ⟨fun h => deedD_inj (by show PyData.tuple x.L = .tuple y.L; rw [h]), fun h => by rw [h]⟩
section
variable {K : PySem.W.Frag} {ta : TE} {δ : En} {μ μ1 : Mp} {x : Deed} {s : Str}
theorem e_eqW (y : Deed) (hy : deedD y = .tuple [.str s]) (h : E1 ta δ μ (D K (deedD x)) μ1) : E1 (tOp (rEqD K) ta (tTup (tCons (tC (.str s)) tNil))) δ μ (D K (.bool (decide (x = y)))) μ1 := by
  refine e_eqD (K := K) (P2 := D K (.tuple [.str s])) (d := deedD x) (e := deedD y) h (e_tup (K := K) (d_cons e_cS d_nil) (by show 1 ≤ 1000; decide)) dr_D ?_ (sh_deed (n := 0) _).ok (sh_deed (n := 0) _).ok (eqv_deed _ _)
  rw [hy]
  exact dr_D
theorem e_neW (y : Deed) (hy : deedD y = .tuple [.str s]) (h : E1 ta δ μ (D K (deedD x)) μ1) : E1 (tOp (rNeD K) ta (tTup (tCons (tC (.str s)) tNil))) δ μ (D K (.bool (!decide (x = y)))) μ1 := by
  refine e_neD (K := K) (P2 := D K (.tuple [.str s])) (d := deedD x) (e := deedD y) h (e_tup (K := K) (d_cons e_cS d_nil) (by show 1 ≤ 1000; decide)) dr_D ?_ (sh_deed (n := 0) _).ok (sh_deed (n := 0) _).ok (eqv_deed _ _)
  rw [hy]
  exact dr_D
end
end SY
set_option Elab.async false
set_option linter.all false
set_option maxRecDepth 100000
namespace SY
open PySem PySem.Spec L2 SX
abbrev FsQ := List (Str × Pr)
def FsP (G : Hp) : FsQ → List (Str × V) → Prop
  | [], [] => True
  | q :: fs, p :: vs => (p.1 = q.1 ∧ q.2.p G p.2) ∧ FsP G fs vs
  | _, _ => False
theorem FsP.mono {G G' : Hp} (e : Ex G G') : ∀ {fs : FsQ} {vs : List (Str × V)}, FsP G fs vs → FsP G' fs vs
  | [], [], _ => trivial
  | q :: _, _ :: _, h => ⟨⟨h.1.1, q.2.m _ _ _ e h.1.2⟩, FsP.mono e h.2⟩
  | [], _ :: _, h => h.elim
  | _ :: _, [], h => h.elim
theorem FsP.len {G : Hp} : ∀ {fs : FsQ} {vs : List (Str × V)}, FsP G fs vs → vs.length = fs.length
  | [], [], _ => rfl
  | _ :: _, _ :: _, h => by simp [FsP.len h.2]
  | [], _ :: _, h => h.elim
  | _ :: _, [], h => h.elim
theorem lookup_hd (f g : Str) (y : V) (fs : List (Str × V)) : ((f, y) :: fs).lookup g = if g = f then some y else fs.lookup g := by
  by_cases h : g = f
  · subst h
    simp [List.lookup]
  · have e : (g == f) = false := by simpa using h
    rw [if_neg h]
    simp [List.lookup, e]
def lookP (f : Str) : FsQ → Option Pr
  | [] => none
  | (g, P) :: r => if f = g then some P else lookP f r
theorem FsP.get {G : Hp} {f : Str} {P : Pr} : ∀ {fs : FsQ} {vs : List (Str × V)}, FsP G fs vs → lookP f fs = some P → ∃ v, vs.lookup f = some v ∧ P.p G v
  | [], [], _, h => by cases h
  | (g, Q) :: fs, (g', v) :: vs, h, hl => by
    obtain ⟨⟨h1, h2⟩, h3⟩ := h
    have h1 : g' = g := h1
    subst h1
    rw [lookup_hd]
    unfold lookP at hl
    by_cases e : f = g'
    · rw [if_pos e] at hl ⊢
      cases hl
      exact ⟨v, rfl, h2⟩
    · rw [if_neg e] at hl ⊢
      exact FsP.get h3 hl
  | [], _ :: _, h, _ => h.elim
  | _ :: _, [], h, _ => h.elim
def putP (f : Str) (P : Pr) : FsQ → FsQ
  | [] => [(f, P)]
  | (g, Q) :: r => if g = f then (g, P) :: r else (g, Q) :: putP f P r
theorem FsP.put {G : Hp} {f : Str} {P : Pr} {v : V} (hv : P.p G v) : ∀ {fs : FsQ} {vs : List (Str × V)}, FsP G fs vs → FsP G (putP f P fs) (putF f v vs)
  | [], [], _ => ⟨⟨rfl, hv⟩, trivial⟩
  | (g, Q) :: fs, (g', w) :: vs, h => by
    obtain ⟨⟨h1, h2⟩, h3⟩ := h
    have h1 : g' = g := h1
    subst h1
    unfold putP putF
    by_cases e : g' = f
    · rw [if_pos e, if_pos e]
      exact ⟨⟨rfl, hv⟩, h3⟩
    · rw [if_neg e, if_neg e]
      exact ⟨⟨rfl, h2⟩, FsP.put hv h3⟩
  | [], _ :: _, h => h.elim
  | _ :: _, [], h => h.elim
/-- an object that stands still -/
def ObP (C : Addr) (fs : FsQ) : Pr := ⟨fun G v => ∃ p dx vs, v = .ref p ∧ G p = some (.ins C dx vs) ∧ FsP G fs vs, fun _ _ _ e h => by
  obtain ⟨p, dx, vs, h1, h2, h3⟩ := h
  exact ⟨p, dx, vs, h1, e _ _ h2, h3.mono e⟩⟩
section
variable {E : XK} {K : PySem.W.Frag} {C C2 p : Addr} {te ta tb tc : TE} {tA : TA} {δ : En} {μ μ' μ0 μ1 μ2 rest : Mp} {P Q P1 P2 : Pr} {Ps : List Pr} {fs gs : FsQ} {f : Str} {n : Nat} {PP : PY} {u : TS}
theorem ins_ob {μ : Mp} : InsY C (ObP C fs) μ := fun G v M h _ => by
  obtain ⟨p, dx, vs, rfl, h1, h2⟩ := h
  exact ⟨p, dx, vs, rfl, .G h1⟩
theorem e_fldP (h : E1 ta δ μ (ObP C fs) μ1) (cl : Cls K C) (hn : NoAttr K C f) (hl : lookP f fs = some P) : E1 (tFld K ta f) δ μ P μ1 := fun σ G M s mm G1 H F e m1 q z =>
  h σ G M s mm G1 H F e m1 _ fun v G2 M2 H2 e2 m2 r2 => by
    obtain ⟨p, dx, vs, rfl, h1, h2⟩ := r2.1
    obtain ⟨w, h3, h4⟩ := h2.get hl
    exact ⟨p, C, dx, vs, w, rfl, m2.ex _ _ h1, cl, hn, h3, z w G2 M2 H2 e2 m2 ⟨h4, r2.2⟩⟩
end
end SY
set_option Elab.async false
set_option linter.all false
set_option maxRecDepth 100000
namespace SY
open PySem PySem.Spec L2 SX
/-- data, or an owned list of data -/
def RD (K : PySem.W.Frag) (P : Pr) (μ : Mp) (d : PyData) : Prop := Imp P (D K d) ∨ ∃ ds, d = .list ds ∧ LR K P μ ds
section
variable {E : XK} {K : PySem.W.Frag} {C : Addr} {te ta tb tc tl : TE} {tt : TT} {tA : TA} {δ δ' : En} {μ μ' μ0 μ1 μ2 rest : Mp} {P Q P1 P2 : Pr} {d e : PyData} {ds es : List PyData} {k : Nat} {g : TG} {vs : List Nat}
theorem rd_D : RD K (D K d) μ d := .inl (Imp.refl _)
theorem rd_L (h : LR K P μ ds) : RD K P μ (.list ds) := .inr ⟨ds, rfl, h⟩
end
/-- a kind -/
structure GoodKd (b r : Int) (ds : List Deed) (m : Int) : Prop where
  b2 : 2 ≤ b
  b12 : b ≤ 12
  r1 : 1 ≤ r
  r4 : r ≤ 4
  pw : b ^ r.toNat ≤ 1000
  m1 : 1 ≤ m
  m3 : m ≤ 3
  n1 : 1 ≤ ds.length
  n8 : ds.length ≤ 8
  nd : ds.Nodup
  ok : ∀ x ∈ ds, x ∈ allDeeds b r
/-- in the order of a kind -/
def inOrder (b r : Int) (ds : List Deed) : List Deed := (allDeeds b r).filter fun x => decide (x ∈ ds)
end SY
namespace SY
open PySem PySem.Spec L2 SX
end SY
namespace SY
open PySem PySem.Spec L2 SX
theorem allDeeds_len {b r : Int} (hb : 2 ≤ b ∧ b ≤ 12) (hr : 1 ≤ r ∧ r ≤ 4) : (allDeeds b r).length ≤ 70 := by
  have h1 : r.toNat * (b - 1).toNat ≤ 4 * 11 := Nat.mul_le_mul (by omega) (by omega)
  simp only [allDeeds, List.length_append, List.length_cons, List.length_nil, offsOf_len, readsOf_len, copiesOf_len]
  omega
end SY
namespace SY
open PySem PySem.Spec L2 SX
end SY
namespace SY
open PySem PySem.Spec L2 SX
end SY
set_option Elab.async false
set_option linter.all false
set_option maxRecDepth 100000
namespace SY
open PySem PySem.Spec L2 SX
/-- some of a list in drawn order: those drawn, those left, the deck -/
def someS (xs : List Deed) (Dk : Deck) : Nat → List Deed × List Deed × Deck
  | 0 => ([], xs, Dk)
  | n + 1 =>
    let t := someS xs Dk n
    (t.1 ++ [t.2.1.getD (dv t.2.2 t.2.1.length).toNat .right], t.2.1.eraseIdx (dv t.2.2 t.2.1.length).toNat, dn t.2.2 t.2.1.length)
theorem erase_perm {α : Type} : ∀ {l : List α} {k : Nat} (h : k < l.length), (l[k] :: l.eraseIdx k).Perm l
  | _ :: _, 0, _ => List.Perm.refl _
  | x :: l, k + 1, h => (List.Perm.swap x _ _).trans ((erase_perm (l := l) (k := k) (by simpa using h)).cons x)
theorem someS_ok {xs : List Deed} {Dk : Deck} : ∀ n, n ≤ xs.length → (someS xs Dk n).1.length = n ∧ (someS xs Dk n).2.1.length + n = xs.length ∧ ((someS xs Dk n).1 ++ (someS xs Dk n).2.1).Perm xs
  | 0, _ => ⟨rfl, rfl, List.Perm.refl _⟩
  | n + 1, h => by
    obtain ⟨h1, h2, h3⟩ := someS_ok (xs := xs) (Dk := Dk) n (by omega)
    unfold someS
    dsimp only
    generalize (someS xs Dk n).1 = s at h1 h3 ⊢
    generalize (someS xs Dk n).2.1 = l at h2 h3 ⊢
    generalize (someS xs Dk n).2.2 = D
    have hk0 : 0 ≤ dv D l.length := dv_lo (by omega)
    have hk1 : dv D l.length < l.length := dv_hi (by omega)
    have hk : (dv D l.length).toNat < l.length := by omega
    generalize (dv D l.length).toNat = k at hk
    refine ⟨by simp [h1], by rw [List.length_eraseIdx_of_lt hk]; omega, ?_⟩
    refine List.Perm.trans ?_ h3
    rw [List.append_assoc]
    refine List.Perm.append_left s ?_
    rw [List.getD_eq_getElem?_getD, List.getElem?_eq_getElem hk, Option.getD_some]
    exact erase_perm hk
end SY
namespace SY
open PySem PySem.Spec L2 SX
def Deed.args : Deed → List Int
  | .off d => [d]
  | .read j d => [j, d]
  | .copy j => [j]
  | _ => []
theorem cut_args (x : Deed) : cutG x.L (some 1) none = (Deed.args x).map .int := by cases x <;> rfl
end SY
namespace SY
open PySem PySem.Spec L2 SX
theorem allDeeds_lo {b r : Int} (hb : 2 ≤ b ∧ b ≤ 12) (hr : 1 ≤ r ∧ r ≤ 4) : 8 ≤ (allDeeds b r).length := by
  have h1 : 1 * 1 ≤ r.toNat * (b - 1).toNat := Nat.mul_le_mul (by omega) (by omega)
  simp only [allDeeds, List.length_append, List.length_cons, List.length_nil, offsOf_len, readsOf_len, copiesOf_len]
  omega
theorem in_offs {b : Int} {x : Deed} (h : x ∈ offsOf b) : ∃ d, x = .off d := by
  obtain ⟨d, _, rfl⟩ := List.mem_map.mp h
  exact ⟨_, rfl⟩
theorem in_reads {b r : Int} {x : Deed} (h : x ∈ readsOf b r) : ∃ j d, x = .read j d := by
  obtain ⟨j, _, h⟩ := List.mem_flatMap.mp h
  obtain ⟨d, _, rfl⟩ := List.mem_map.mp h
  exact ⟨_, _, rfl⟩
theorem in_copies {r : Int} {x : Deed} (h : x ∈ copiesOf r) : ∃ j, x = .copy j := by
  obtain ⟨d, _, rfl⟩ := List.mem_map.mp h
  exact ⟨_, rfl⟩
theorem offsOf_nodup (b : Int) : (offsOf b).Nodup := by
  unfold offsOf List.Nodup
  rw [List.pairwise_map, List.pairwise_map]
  exact List.Pairwise.imp (fun h => by intro e; injection e; omega) List.nodup_range
theorem readsOf_nodup (b r : Int) : (readsOf b r).Nodup := by
  unfold readsOf List.Nodup
  rw [List.pairwise_flatMap]
  refine ⟨fun j _ => ?_, ?_⟩
  · rw [List.pairwise_map, List.pairwise_map]
    exact List.Pairwise.imp (fun h => by intro e; injection e; omega) List.nodup_range
  · refine List.Pairwise.imp (fun h x hx y hy => ?_) List.nodup_range
    obtain ⟨_, _, rfl⟩ := List.mem_map.mp hx
    obtain ⟨_, _, rfl⟩ := List.mem_map.mp hy
    intro e
    injection e
    omega
theorem copiesOf_nodup (r : Int) : (copiesOf r).Nodup := by
  unfold copiesOf List.Nodup
  rw [List.pairwise_map]
  exact List.Pairwise.imp (fun h => by intro e; injection e; omega) List.nodup_range
theorem allDeeds_nodup (b r : Int) : (allDeeds b r).Nodup := by
  unfold allDeeds
  refine List.nodup_append.mpr ⟨by decide, List.nodup_append.mpr ⟨offsOf_nodup b, List.nodup_append.mpr ⟨readsOf_nodup b r, List.nodup_append.mpr ⟨copiesOf_nodup r, by decide, ?_⟩, ?_⟩, ?_⟩, ?_⟩
  · intro x hx y hy e
    obtain ⟨j, rfl⟩ := in_copies hx
    subst e
    simp at hy
  · intro x hx y hy e
    obtain ⟨j, d, rfl⟩ := in_reads hx
    subst e
    rcases List.mem_append.mp hy with h | h
    · obtain ⟨_, h⟩ := in_copies h
      cases h
    · simp at h
  · intro x hx y hy e
    obtain ⟨d, rfl⟩ := in_offs hx
    subst e
    rcases List.mem_append.mp hy with h | h
    · obtain ⟨_, _, h⟩ := in_reads h
      cases h
    · rcases List.mem_append.mp h with h | h
      · obtain ⟨_, h⟩ := in_copies h
        cases h
      · simp at h
  · intro x hx y hy e
    subst e
    rcases List.mem_append.mp hy with h | h
    · obtain ⟨_, rfl⟩ := in_offs h
      simp at hx
    · rcases List.mem_append.mp h with h | h
      · obtain ⟨_, _, rfl⟩ := in_reads h
        simp at hx
      · rcases List.mem_append.mp h with h | h
        · obtain ⟨_, rfl⟩ := in_copies h
          simp at hx
        · simp only [List.mem_cons, List.not_mem_nil, or_false] at hx h
          rcases hx with rfl | rfl <;> rcases h with h | h | h <;> cases h
end SY
namespace SY
open PySem PySem.Spec L2 SX
/-- a kind's deeds, out of a pool of at most eight, one of them in any case -/
structure InPool (b r : Int) (pool : List Deed) (x0 : Deed) (ds : List Deed) : Prop where
  sub : ∀ x ∈ ds, x ∈ pool
  has : x0 ∈ ds
  ord : inOrder b r ds = ds
structure GoodPool (b r : Int) (pool : List Deed) : Prop where
  b2 : 2 ≤ b
  b12 : b ≤ 12
  r1 : 1 ≤ r
  r4 : r ≤ 4
  pw : b ^ r.toNat ≤ 1000
  n8 : pool.length ≤ 8
  nd : pool.Nodup
  ok : ∀ x ∈ pool, x ∈ allDeeds b r
theorem sub_len {xs pool : List Deed} (hx : xs.Nodup) (hp : pool.Nodup) (h : ∀ x ∈ xs, x ∈ pool) : xs.length ≤ pool.length := by
  have : xs.Perm (pool.filter fun x => decide (x ∈ xs)) := (List.perm_ext_iff_of_nodup hx (hp.filter _)).mpr fun x => by
    rw [List.mem_filter, decide_eq_true_eq]
    exact ⟨fun z => ⟨h x z, z⟩, fun z => z.2⟩
  rw [this.length_eq]
  exact List.length_filter_le _ _
theorem GoodPool.kd {b r m : Int} {pool ds : List Deed} (g : GoodPool b r pool) (hm : 1 ≤ m ∧ m ≤ 3) (h1 : 1 ≤ ds.length) (hn : ds.Nodup) (hs : ∀ x ∈ ds, x ∈ pool) : GoodKd b r ds m :=
  ⟨g.b2, g.b12, g.r1, g.r4, g.pw, hm.1, hm.2, h1, Nat.le_trans (sub_len hn g.nd hs) g.n8, hn, fun x hx => g.ok x (hs x hx)⟩
theorem InPool.nd {b r : Int} {pool ds : List Deed} {x0 : Deed} (h : InPool b r pool x0 ds) : ds.Nodup := by
  rw [← h.ord]
  exact (allDeeds_nodup b r).filter _
theorem InPool.pos {b r : Int} {pool ds : List Deed} {x0 : Deed} (h : InPool b r pool x0 ds) : 1 ≤ ds.length := List.length_pos_of_mem h.has
theorem InPool.kd {b r m : Int} {pool ds : List Deed} {x0 : Deed} (h : InPool b r pool x0 ds) (g : GoodPool b r pool) (hm : 1 ≤ m ∧ m ≤ 3) : GoodKd b r ds m := g.kd hm h.pos h.nd h.sub
end SY
namespace SY
open PySem PySem.Spec L2 SX
end SY
namespace SY
open PySem PySem.Spec L2 SX
structure PK (b r : Int) (pool : List Deed) (x0 : Deed) (ds : List Deed) (m : Int) : Prop where
  g : GoodPool b r pool
  i : InPool b r pool x0 ds
  m1 : 1 ≤ m
  m3 : m ≤ 3
section
variable {b r m m2 : Int} {pool ds es : List Deed} {x0 : Deed}
theorem PK.kd (h : PK b r pool x0 ds m) : GoodKd b r ds m := h.i.kd h.g ⟨h.m1, h.m3⟩
theorem PK.len (h : PK b r pool x0 ds m) : ds.length ≤ 1000 := Nat.le_trans h.kd.n8 (by decide)
theorem PK.sub (h : PK b r pool x0 ds m) {x : Deed} (hx : x ∈ ds) : x ∈ allDeeds b r := h.g.ok x (h.i.sub x hx)
end
end SY
namespace SY
open PySem PySem.Spec L2 SX
end SY
namespace SY
open PySem PySem.Spec L2 SX
end SY
namespace SY
open PySem PySem.Spec L2 SX
end SY
set_option Elab.async false
set_option linter.all false
set_option maxRecDepth 100000
namespace SY
open PySem PySem.Spec L2 SX
end SY
namespace SY
open PySem PySem.Spec L2 SX
end SY
namespace SY
open PySem PySem.Spec L2 SX
end SY
set_option Elab.async false
set_option linter.all false
set_option maxRecDepth 100000
namespace SY
open PySem PySem.Spec L2 SX
abbrev EXY := Value → Option Addr → Mp → Prop
def EXY.po (X : EXY) : Value → Option Addr → Hp → Mem → Prop := fun c d G M => ∃ μ, X c d μ ∧ Mm G M μ
/-- an expression that raises, surely -/
def ER (E : XK) (te : TE) (δ : En) (μ : Mp) (X : EXY) : Prop := ∀ σ G M, Sl G σ δ → Mm G M μ → EvR E te σ G M X.po
/-- a promise: comes back, or raises -/
def spX {α : Type} (A : α → List Pr) (m : α → Mp) (pre : α → Prop) (R : α → Pr → Mp → Prop) (Xc : α → EXY) : Sp :=
  specX (fun x G M vs => Mm G M (m x) ∧ AP G (A x) vs ∧ pre x) (fun x _ G v M' => ∃ Q μ', R x Q μ' ∧ Q.p G v ∧ Mm G M' μ') (fun x _ => (Xc x).po)
def BackX {α : Type} (Xc : α → EXY) (x : α) : EXY := fun c d μ => ∃ μ2, Xc x c d μ2 ∧ μ2.Sublist μ
section
variable {P : Program} {w : World} {K : PySem.W.Frag} {mg : Str → Option Value} {base : Heap} {α : Type} {A : α → List Pr} {m : α → Mp} {pre : α → Prop} {R : α → Pr → Mp → Prop} {Xc : α → EXY}
theorem fn_YX {x qual : Str} {st : Stmt} {f : Addr} {fd : FuncData} {N ps : List Str} {k : Nat} (F : Fun K x qual st f fd) (S : FnScope N ps (defScope st)) (len : ∀ x, (A x).length = ps.length)
    (body : ∀ (cdv : Value) (Ar : Around) (outer : List Env) (s : Shared) (H : Hp) (E : XK), Room k (Ar.deeper (PyProof.Rows.envOfC qual (defScope st) s.heap.objs.size f cdv)) →
      ∃ t, PSs (cxOf (L2.CX P w) P w K mg base N qual (defScope st) f cdv Ar outer s H E) (defBody st) t ∧ ∀ x, pre x → S1 E t (startY N (A x)) (m x) { nx := fun _ μ => BackY R x (D K .none) μ, rt := BackY R x, ex := BackX Xc x }) :
    FnOk P w K mg base (L2.CX P w) (k + 1) f fd ps (spX A m pre R Xc) := by
  refine fn_svX F S (fun x G M vs h => by rw [AP.len h.2.1, len]) fun cdv Ar outer s H E hr => ?_
  obtain ⟨t, ht, hs⟩ := body cdv Ar outer s H E hr
  refine ⟨t, ht, fun x G M vs h => ?_⟩
  have hb : ∀ {Q : Pr} {μ : Mp} {G' : Hp} {v : V} {M' : Mem} {F : Mem} {H' : Hp}, BackY R x Q μ → Q.p G' v → Mm G' M' μ → Me G' (M' ++ F) H' → ∃ M2, Me G' (M2 ++ F) H' ∧ ∃ Q2 μ2, R x Q2 μ2 ∧ Q2.p G' v ∧ Mm G' M2 μ2 := by
    intro Q μ G' v M' F H' hq hp hm he
    obtain ⟨Q2, μ2, h1, h2, h3⟩ := backY_of hq
    obtain ⟨M2, h4, h5⟩ := hm.sub h3
    exact ⟨M2, he.sub (List.Sublist.append_right h4 F), Q2, μ2, h1, h2 _ _ hp, h5⟩
  intro G1 H F DD e m1 hd
  refine hs x h.2.2 _ G M (sl_start h.2.1) h.1 G1 H F DD e m1 ⟨?_, ?_, ?_, ?_, ?_⟩
  · rintro σ2 G2 M2 H2 e2 m2 ⟨δ2, μ2, n0, n1, n2⟩
    obtain ⟨M3, m3, r⟩ := hb n0 .non n2 m2
    exact hd.nx σ2 G2 M3 H2 e2 m3 r
  · rintro v G2 M2 H2 e2 m2 ⟨Q2, μ2, n0, n1, n2⟩
    obtain ⟨M3, m3, r⟩ := hb n0 n1 n2 m2
    exact hd.rt v G2 M3 H2 e2 m3 r
  · rintro σ2 G2 M2 H2 e2 m2 ⟨δ2, μ2, n0, _⟩
    exact n0.elim
  · rintro σ2 G2 M2 H2 e2 m2 ⟨δ2, μ2, n0, _⟩
    exact n0.elim
  · rintro c d G2 M2 H2 e2 m2 ⟨μ2, ⟨μ3, n0, n1⟩, n2⟩
    obtain ⟨M3, h4, h5⟩ := n2.sub n1
    exact hd.ex c d G2 M3 H2 e2 (m2.sub (List.Sublist.append_right h4 F)) ⟨μ3, n0, h5⟩
end
section
variable {E : XK} {K : PySem.W.Frag} {te ta tb : TE} {tA tr : TA} {δ δ' : En} {μ μ1 μ2 rest : Mp} {Q : Pr} {u : TS} {P : PY} {g : TG} {X : EXY} {c : Value}
theorem ER.imp {X' : EXY} (h : ER E te δ μ X) (i : ∀ c d μ, X c d μ → X' c d μ) : ER E te δ μ X' := fun σ G M s mm G1 H F e m1 x Q => h σ G M s mm G1 H F e m1 (fun c d G2 M2 H2 e2 m2 ⟨μ2, h2, h3⟩ => x c d G2 M2 H2 e2 m2 ⟨μ2, i c d μ2 h2, h3⟩) Q
end
end SY
namespace SY
open PySem PySem.Spec L2 SX
end SY
set_option Elab.async false
set_option linter.all false
set_option maxRecDepth 100000
namespace SY
open PySem PySem.Spec L2 SX
/-- raises, surely; the wish is told at the slots -/
def ES (EE : L2.St → XK) (te : TE) (δ : En) (μ : Mp) (X : EXY) : Prop := ∀ σ G M, Sl G σ δ → Mm G M μ → EvR (EE σ) te σ G M X.po
def SS (EE : L2.St → XK) (t : TS) (δ : En) (μ : Mp) (P : PY) : Prop := ∀ σ G M, Sl G σ δ → Mm G M μ → Sv (EE σ) t σ G M P.po
/-- the error's class, without a dict; what is owned then -/
abbrev Er (c : Addr) (μ0 : Mp) : EXY := fun cl d μ => cl = .ref c ∧ d = none ∧ μ = μ0
section
variable {EE : L2.St → XK} {E : XK} {K : PySem.W.Frag} {te ta tb : TE} {tA tr : TA} {δ δ' : En} {μ μ1 μ2 rest : Mp} {Q P1 P2 : Pr} {u : TS} {P : PY} {g : TG} {X X' : EXY} {R : Pr → Mp → Prop} {k : Nat}
theorem ss_set (h : E1 te δ μ Q μ1) (k' : P.nx (δ.set k (some Q)) μ1) : SS EE (tAsg te (gName k)) δ μ P := fun σ G M s mm => s_set (E := EE σ) h k' σ G M s mm
theorem ss_setR (h : ES EE te δ μ P.ex) : SS EE (tAsg te g) δ μ P := fun σ G M s mm => sv_setR (h σ G M s mm)
theorem ES.imp (h : ES EE te δ μ X) (i : ∀ c d μ, X c d μ → X' c d μ) : ES EE te δ μ X' := fun σ G M s mm G1 H F e m1 x Q => h σ G M s mm G1 H F e m1 (fun c d G2 M2 H2 e2 m2 ⟨μ2, h2, h3⟩ => x c d G2 M2 H2 e2 m2 ⟨μ2, i c d μ2 h2, h3⟩) Q
theorem es_lst1 (h : ES EE te δ μ X) : ES EE (tLst (tCons te tr)) δ μ X := fun σ G M s mm => er_lst (er_one (h σ G M s mm))
section
variable {α : Type} {A : α → List Pr} {m : α → Mp} {pre : α → Prop} {Rx : α → Pr → Mp → Prop} {Xc : α → EXY}
/-- a call that comes back -/
theorem y_callS (x : α) (h : EA tA δ μ (A x) (m x ++ rest)) (hp : pre x) (hx : ∀ c d μ, ¬ Xc x c d μ) : EY (tCallS (spX A m pre Rx Xc) EE tA) δ μ (fun Q μ' => ∃ μ2, Rx x Q μ2 ∧ μ' = μ2 ++ rest) := fun σ G M s mm G1 H F e m1 q z =>
  h σ G M s mm G1 H F e m1 _ fun vs G2 M2 H2 e2 m2 a2 r2 => by
    obtain ⟨Ma, Mb, rfl, ma, mb⟩ := Mm.cut r2
    refine ⟨x, G2, Ma, Mb ++ F, by rw [← List.append_assoc]; exact m2, ⟨ma, a2, hp⟩, fun v G' M' H' e' m' ⟨Q, μ', r0, r1, r2⟩ => ?_, fun c d G' M' H' e' m' ⟨μ', r0, _⟩ => absurd r0 (hx c d μ')⟩
    exact z v G' (M' ++ Mb) H' (e2.trans e') (by rw [List.append_assoc]; exact m') ⟨Q, _, ⟨μ', r0, rfl⟩, r1, Mm.app r2 (mb.mono e')⟩
/-- a call that raises -/
theorem es_callS (x : α) (h : EA tA δ μ (A x) (m x ++ rest)) (hp : pre x) (hr : ∀ Q μ, ¬ Rx x Q μ) : ES EE (tCallS (spX A m pre Rx Xc) EE tA) δ μ (fun c d μ' => ∃ μ2, Xc x c d μ2 ∧ μ' = μ2 ++ rest) := fun σ G M s mm G1 H F e m1 z q =>
  h σ G M s mm G1 H F e m1 _ fun vs G2 M2 H2 e2 m2 a2 r2 => by
    obtain ⟨Ma, Mb, rfl, ma, mb⟩ := Mm.cut r2
    refine ⟨x, G2, Ma, Mb ++ F, by rw [← List.append_assoc]; exact m2, ⟨ma, a2, hp⟩, fun v G' M' H' e' m' ⟨Q, μ', r0, _⟩ => absurd r0 (hr Q μ'), fun c d G' M' H' e' m' ⟨μ', r0, r1⟩ => ?_⟩
    exact z c d G' (M' ++ Mb) H' (e2.trans e') (by rw [List.append_assoc]; exact m') ⟨_, ⟨μ', r0, rfl⟩, Mm.app r1 (mb.mono e')⟩
end
abbrev spT {α : Type} (A : α → List Pr) (m : α → Mp) (pre : α → Prop) (ok : α → Bool) (B : α → Pr) (c : Addr) : Sp :=
  spX A m pre (fun x Q μ => ok x = true ∧ Q = B x ∧ μ = m x) (fun x => fun cl d μ => ok x = false ∧ cl = .ref c ∧ d = none ∧ μ = m x)
theorem s_tryS {i : Nat} {tw : WX → TS} {ts : Addr → Value → Option Addr → TS} {c : Value} {Wout : WX} (X : EXY) (hB : ∀ W : WX, SS (WE W) (tw W) δ μ { P with ex := X })
    (hS : ∀ cls d a μ2, X cls d μ2 → PySem.W.exmOne K cls c = some true ∧ S1 E (ts a cls d) (δ.set i (some (Av a))) μ2 { P with nx := fun δ' μ' => P.nx (δ'.set i none) μ', bk := fun δ' μ' => P.bk (δ'.set i none) μ', ct := fun δ' μ' => P.ct (δ'.set i none) μ' }) :
    S1 E (fun D σ H => tw (wAs K c i ts Wout D) D σ H) δ μ P := fun σ G M s mm =>
  sv_tryAs (P := P.po) X.po (fun W => hB W σ G M s mm) fun cls d a G2 M2 e2 ⟨μ2, hx, h2⟩ => by
    obtain ⟨h3, h4⟩ := hS cls d a μ2 hx
    refine ⟨h3, (h4 _ G2 M2 ((s.mono e2).set (P := Av a) (v := .ref a) (by rfl)) h2).imp ?_ ?_ ?_ ?_ ?_⟩
    · rintro G3 σ3 M3 _ ⟨δ3, μ3, n0, n1, n2⟩
      exact ⟨_, μ3, n0, n1.none2, n2⟩
    · exact fun _ _ _ _ z => z
    · rintro G3 σ3 M3 _ ⟨δ3, μ3, n0, n1, n2⟩
      exact ⟨_, μ3, n0, n1.none2, n2⟩
    · rintro G3 σ3 M3 _ ⟨δ3, μ3, n0, n1, n2⟩
      exact ⟨_, μ3, n0, n1.none2, n2⟩
    · exact fun _ _ _ _ _ z => z
/-- the body comes back -/
theorem s_tryN {i : Nat} {tw : WX → TS} {ts : Addr → Value → Option Addr → TS} {c : Value} {Wout : WX} (hB : ∀ W : WX, SS (WE W) (tw W) δ μ { P with ex := fun _ _ _ => False }) : S1 E (fun D σ H => tw (wAs K c i ts Wout D) D σ H) δ μ P :=
  s_tryS (fun _ _ _ => False) hB fun _ _ _ _ z => z.elim
/-- the body raises this -/
theorem s_tryE {i : Nat} {tw : WX → TS} {ts : Addr → Value → Option Addr → TS} {c : Value} {Wout : WX} {C : Addr} (hB : ∀ W : WX, SS (WE W) (tw W) δ μ { P with ex := Er C μ1 }) (hm : PySem.W.exmOne K (.ref C) c = some true)
    (hS : ∀ a, S1 E (ts a (.ref C) none) (δ.set i (some (Av a))) μ1 { P with nx := fun δ' μ' => P.nx (δ'.set i none) μ', bk := fun δ' μ' => P.bk (δ'.set i none) μ', ct := fun δ' μ' => P.ct (δ'.set i none) μ' }) : S1 E (fun D σ H => tw (wAs K c i ts Wout D) D σ H) δ μ P :=
  s_tryS (Er C μ1) hB fun cls d a μ2 ⟨h1, h2, h3⟩ => by subst h1 h2 h3; exact ⟨hm, hS a⟩
theorem e_isC {a Dc : Addr} {b : Bool} {c : V} {cv : Value} (hD : ExcC K Dc) (h : E1 ta δ μ (Av a) μ1) (hcv : ∀ u, RelV c u → u = cv) (hk : PySem.W.kitOne K (.ref Dc) cv = some b) : E1 (tCB (rIsC K (.ref Dc) none a) (tCons ta (tCons (tC c) tNil))) δ μ (D K (.bool b)) μ1 :=
  e_CB (a_cons h (a_cons (e_cst (P := Cv c) fun _ => rfl) a_nil)) fun G H F M vs m mm p Q q => by
    match vs, p with
    | [v, w], ⟨p1, p2, _⟩ =>
      have p1 : v = .ref a := p1
      have p2 : w = c := p2
      subst p1 p2
      exact ⟨Dc, rfl, rfl, hD, w, cv, b, rfl, hcv, hk, q _ G M H (Ex.refl _) m (.bl _) mm⟩
theorem ap_cv {G : Hp} : ∀ {cs vs : List V}, AP G (cs.map Cv) vs → vs = cs
  | [], [], _ => rfl
  | _ :: _, _ :: _, h => by
    obtain ⟨h1, h2⟩ := h
    have h1 : _ = _ := h1
    rw [h1, ap_cv h2]
  | [], _ :: _, h => h.elim
  | _ :: _, [], h => h.elim
theorem a_cs {cs : List V} : ∀ {ts : TA}, (∀ σ H Q, Q cs H → ts σ H Q) → EA ts δ μ (cs.map Cv) μ := fun ht σ G M s mm G1 H F e m1 Q q => ht σ H Q (q cs G1 M H (Ex.refl _) m1 (by
  clear q ht
  induction cs with
  | nil => trivial
  | cons c cs ih => exact ⟨rfl, ih⟩) (mm.mono e))
theorem e_isCT {a Dc : Addr} {b : Bool} {tt : TA} {cs : List V} {us : List Value} (hD : ExcC K Dc) (h : E1 ta δ μ (Av a) μ1) (ht : ∀ σ H Q, Q cs H → tt σ H Q) (hl : cs.length ≤ 1000) (hcs : Paired ClsV cs us) (hk : PySem.W.kitAny K (.ref Dc) us = some b) : E1 (tCB (rIsCT K (.ref Dc) none a) (tCons ta (tCons (tTup tt) tNil))) δ μ (D K (.bool b)) μ1 :=
  e_CB (a_cons h (a_cons (e_tupP (a_cs ht) (by simpa using hl)) a_nil)) fun G H F M vs m mm p Q q => by
    match vs, p with
    | [v, w], ⟨p1, p2, _⟩ =>
      have p1 : v = .ref a := p1
      subst p1
      obtain ⟨tp, ws, rfl, h3, h4⟩ := p2
      have := ap_cv h4
      subst this
      exact ⟨Dc, rfl, rfl, hD, tp, ws, us, b, rfl, m.ex _ _ h3, hcs, hk, q _ G M H (Ex.refl _) m (.bl _) mm⟩
end
end SY
namespace SY
open PySem PySem.Spec L2 SX
end SY
namespace SY
open PySem PySem.Spec L2 SX
end SY
namespace SY
open PySem PySem.Spec L2 SX
end SY
namespace SY
open PySem PySem.Spec L2 SX
theorem E1.cast {te : TE} {δ : En} {μ μ' : Mp} {P P1 : Pr} (h : E1 te δ μ P μ') (e : P = P1) : E1 te δ μ P1 μ' := e ▸ h
end SY
namespace SY
open PySem PySem.Spec L2 SX
/-- what some are drawn of -/
structure PoolOk (b r : Int) (pool : List Deed) : Prop where
  nd : pool.Nodup
  ok : ∀ x ∈ pool, x ∈ allDeeds b r
  n1 : 1 ≤ pool.length
  n70 : pool.length ≤ 70
theorem PoolOk.all {b r : Int} (hb : 2 ≤ b ∧ b ≤ 12) (hr : 1 ≤ r ∧ r ≤ 4) : PoolOk b r (allDeeds b r) := ⟨allDeeds_nodup b r, fun _ h => h, by have := allDeeds_lo hb hr; omega, allDeeds_len hb hr⟩
theorem PoolOk.some {b r : Int} {pool : List Deed} (g : PoolOk b r pool) {Dk : Deck} {n : Nat} (h1 : 1 ≤ n) (h : n ≤ pool.length) : PoolOk b r (someS pool Dk n).1 := by
  obtain ⟨h2, h3, h4⟩ := someS_ok (xs := pool) (Dk := Dk) n h
  have := g.n70
  exact ⟨(List.nodup_append.mp (h4.nodup_iff.mpr g.nd)).1, fun x hx => g.ok x (h4.mem_iff.mp (List.mem_append_left _ hx)), by omega, by omega⟩
theorem PoolOk.kd {b r m : Int} {pool : List Deed} (g : PoolOk b r pool) (hb : 2 ≤ b ∧ b ≤ 12) (hr : 1 ≤ r ∧ r ≤ 4) (hp : b ^ r.toNat ≤ 1000) (hm : 1 ≤ m ∧ m ≤ 3) (h8 : pool.length ≤ 8) : GoodKd b r pool m := ⟨hb.1, hb.2, hr.1, hr.2, hp, hm.1, hm.2, g.n1, h8, g.nd, g.ok⟩
end SY
set_option Elab.async false
set_option linter.all false
set_option maxRecDepth 100000
namespace SY
open PySem PySem.Spec L2 SX
section
variable {E : XK} {K : PySem.W.Frag} {te ta tb : TE} {tc tt : TT} {tA tr : TA} {δ δ' : En} {μ μ' μ1 μ2 rest : Mp} {Q P1 : Pr} {u t : TS} {P : PY} {Ps : List Pr} {ad : Addr} {i : Int}
theorem s_while (Iv : Nat → En → Mp → Prop) (m0 : Nat) (h0 : Iv m0 δ μ)
    (hs : ∀ m δ' μ', Iv m δ' μ' → ∃ b μ2, T1 tc δ' μ' b μ2 ∧ (b = true → S1 E t δ' μ2 { P with nx := fun δ2 μ2 => ∃ m', m' < m ∧ Iv m' δ2 μ2, ct := fun δ2 μ2 => ∃ m', m' < m ∧ Iv m' δ2 μ2, bk := P.nx }) ∧ (b = false → P.nx δ' μ2)) : S1 E (tWhile tc t) δ μ P := fun σ G M s mm G1 H F D e m1 hd => by
  refine ⟨fun m σ' H' => ∃ G' M' δ' μ', Iv m δ' μ' ∧ Ex G1 G' ∧ Me G' (M' ++ F) H' ∧ Sl G' σ' δ' ∧ Mm G' M' μ', ⟨m0, G1, M, δ, μ, h0, Ex.refl _, m1, s.mono e, mm.mono e⟩, ?_⟩
  rintro m σ' H' ⟨G', M', δ', μ', ii, e', m', s', r'⟩
  obtain ⟨b, μ2, ht, h1, h2⟩ := hs m δ' μ' ii
  refine ht σ' G' M' s' r' G' H' F (Ex.refl _) m' _ fun G2 M2 H2 e2 m2 r2 => ?_
  cases b with
  | true =>
    rw [if_pos rfl]
    refine ⟨fun σ3 H3 => ∃ m', m' < m ∧ ∃ G' M' δ' μ', Iv m' δ' μ' ∧ Ex G1 G' ∧ Me G' (M' ++ F) H3 ∧ Sl G' σ3 δ' ∧ Mm G' M' μ', fun _ _ z => z, ?_⟩
    refine h1 rfl σ' G2 M2 (s'.mono e2) r2 G2 H2 F _ (Ex.refl _) m2 ⟨?_, ?_, ?_, ?_, ?_⟩
    · exact fun σ2 G3 M3 H3 e3 m3 ⟨x, y, ⟨k, l, n1⟩, n2, n3⟩ => ⟨k, l, G3, M3, x, y, n1, (e'.trans e2).trans e3, m3, n2, n3⟩
    · exact fun v G3 M3 H3 e3 m3 r => hd.rt v G3 M3 H3 ((e'.trans e2).trans e3) m3 r
    · exact fun v G3 M3 H3 e3 m3 r => hd.nx v G3 M3 H3 ((e'.trans e2).trans e3) m3 r
    · exact fun σ2 G3 M3 H3 e3 m3 ⟨x, y, ⟨k, l, n1⟩, n2, n3⟩ => ⟨k, l, G3, M3, x, y, n1, (e'.trans e2).trans e3, m3, n2, n3⟩
    · exact fun c v G3 M3 H3 e3 m3 r => hd.ex c v G3 M3 H3 ((e'.trans e2).trans e3) m3 r
  | false =>
    rw [if_neg Bool.false_ne_true]
    exact hd.nx σ' G2 M2 H2 (e'.trans e2) m2 ⟨δ', μ2, h2 rfl, s'.mono e2, r2⟩
/-- what is owned, told otherwise -/
def Mi (μ μ' : Mp) : Prop := ∀ G M, Mm G M μ → Mm G M μ'
theorem Mi.refl : Mi μ μ := fun _ _ h => h
theorem Mi.cons {a : Addr} {o o' : Ob} (h : ∀ G x, o.p G x → o'.p G x) (i : Mi μ μ') : Mi ((a, o) :: μ) ((a, o') :: μ') := fun G M m => by
  match M, m with
  | _ :: M, ⟨⟨h1, h2⟩, h3⟩ => exact ⟨⟨h1, h _ _ h2⟩, i G M h3⟩
end
end SY
namespace SY
open PySem PySem.Spec L2 SX
end SY
namespace SY
open PySem PySem.Spec L2 SX
end SY
namespace SY
open PySem PySem.Spec L2 SX
end SY
namespace SY
open PySem PySem.Spec L2 SX
theorem T1.le {tt : TT} {δ δ' : En} {μ μ' : Mp} {b : Bool} (h : T1 tt δ' μ b μ') (l : Le δ δ') : T1 tt δ μ b μ' := fun σ G M s m => h σ G M (s.le l) m
end SY
namespace SY
open PySem PySem.Spec L2 SX
end SY
namespace SY
open PySem PySem.Spec L2 SX
end SY
namespace SY
open PySem PySem.Spec L2 SX
theorem Mm.perm {G : Hp} {μ' μ : Mp} (h : μ'.Perm μ) : ∀ {M : Mem}, Mm G M μ → ∃ M' : Mem, M'.Perm M ∧ Mm G M' μ' := by
  induction h with
  | nil => exact fun h => ⟨_, List.Perm.refl _, h⟩
  | cons x _ ih =>
    intro M h
    match M, h with
    | m :: M, ⟨h1, h2⟩ =>
      obtain ⟨M', h3, h4⟩ := ih h2
      exact ⟨m :: M', h3.cons m, h1, h4⟩
  | swap x y l =>
    intro M h
    match M, h with
    | a :: b :: M, ⟨h1, h2, h3⟩ => exact ⟨b :: a :: M, List.Perm.swap _ _ _, h2, h1, h3⟩
  | trans _ _ ih1 ih2 =>
    intro M h
    obtain ⟨M1, h1, h2⟩ := ih2 h
    obtain ⟨M2, h3, h4⟩ := ih1 h2
    exact ⟨M2, h3.trans h1, h4⟩
end SY
set_option Elab.async false
set_option linter.all false
set_option maxRecDepth 100000
namespace SY
open PySem PySem.Spec L2 SX
structure Stand where
  left : Int
  wait : Option Int
  before : Option (List Int)
  carry : Int
  gap : Int
  near : Option Int
  rests : List (Int × Int × Int)
def oiD : Option Int → PyData
  | none => .none
  | some i => .int i
/-- well made, for so wide gaps -/
structure WfS (b : Int) (cp lot : List Int) (N : Int) (s : Stand) : Prop where
  gap : -N ≤ s.gap ∧ s.gap ≤ N
  len : s.rests.length = lot.length
  carry : 0 ≤ s.carry ∧ s.carry ≤ 100
  wait : ∀ w, s.wait = some w → 0 ≤ w ∧ w < b
  bef : ∀ l, s.before = some l → l.length = cp.length ∧ ∀ x ∈ l, 0 ≤ x ∧ x < b
end SY
namespace SY
open PySem PySem.Spec L2 SX
end SY
namespace SY
open PySem PySem.Spec L2 SX
end SY
namespace SY
open PySem PySem.Spec L2 SX
end SY
namespace SY
open PySem PySem.Spec L2 SX
structure ColOk (b r : Int) (c : List Int) : Prop where
  len : (c.length : Int) = r
  fig : ∀ x ∈ c, 0 ≤ x ∧ x < b
theorem WfS.mono {b : Int} {cp lot : List Int} {N N' : Int} {s : Stand} (h : WfS b cp lot N s) (hn : N ≤ N') : WfS b cp lot N' s := ⟨⟨by have := h.gap; omega, by have := h.gap; omega⟩, h.len, h.carry, h.wait, h.bef⟩
end SY
namespace SY
open PySem PySem.Spec L2 SX
end SY
set_option Elab.async false
set_option linter.all false
set_option maxRecDepth 100000
namespace SY
open PySem PySem.Spec L2 SX
end SY
set_option Elab.async false
set_option linter.all false
set_option maxRecDepth 100000
namespace SY
open PySem PySem.Spec L2 SX
theorem in_strs (s : Str) : ∀ ss : List Str, inV (.str s) (ss.map V.str) = decide (s ∈ ss)
  | [] => rfl
  | t :: ss => by
    have ih := in_strs s ss
    unfold inV at ih ⊢
    rw [List.map_cons, List.any_cons, ih]
    show (t == s || _) = _
    by_cases h : s = t
    · subst h
      simp
    · have : (t == s) = false := by simpa using fun z => h z.symm
      rw [this]
      simp [h]
theorem flat_strs : ∀ ss : List Str, (ss.map V.str).all flatV = true
  | [] => rfl
  | t :: ss => by rw [List.map_cons, List.all_cons, flat_strs ss]; rfl
end SY
set_option Elab.async false
set_option linter.all false
set_option maxRecDepth 100000
namespace SY
open PySem PySem.Spec L2 SX
/-- the law's own figures that are taken -/
def lawTaken (b : Int) (cs : List (List Int)) (i : Nat) : Deed → List Int
  | .read j d => (cs.getD i []).set j.toNat (((cs.getD i []).getD j.toNat 0 + d) % b)
  | .copy j => (cs.getD i []).set j.toNat ((cs.getD (i - 1) []).getD j.toNat 0)
  | _ => cs.getD i []
theorem _root_.SX.GoodSh.row {b r : Int} {cs : List (List Int)} (g : GoodSh b r cs) {n : Nat} (hn : n < cs.length) : GoodCol b r (cs.getD n []) := by
  have : cs.getD n [] = cs[n] := by simp [List.getD, List.getElem?_eq_getElem hn]
  rw [this]
  exact g.col _ (List.getElem_mem hn)
end SY
namespace SY
open PySem PySem.Spec L2 SX
def deedAt (w d j : Int) : Deed := if w = 0 then .off d else if w = 1 then .read j d else if w = 2 then .copy j else [Deed.forget, .again, .swap, .out, .twice].getD (w - 3).toNat .forget
def deedV (D : Deck) (b r : Int) : Deed := deedAt (dv D 8) (1 + dv (dn D 8) (b - 1)) (dv (dn (dn D 8) (b - 1)) r)
def deedDk (D : Deck) (b r : Int) : Deck := dn (dn (dn D 8) (b - 1)) r
theorem deedAt_mem {w d j b r : Int} (hw : 0 ≤ w ∧ w < 8) (hd : 1 ≤ d ∧ d < b) (hj : 0 ≤ j ∧ j < r) : deedAt w d j ∈ allDeeds b r := by
  have : w = 0 ∨ w = 1 ∨ w = 2 ∨ w = 3 ∨ w = 4 ∨ w = 5 ∨ w = 6 ∨ w = 7 := by omega
  rw [mem_all]
  rcases this with rfl | rfl | rfl | rfl | rfl | rfl | rfl | rfl
  · exact .inr (.inr (.inl ⟨d, rfl, hd⟩))
  · exact .inr (.inr (.inr (.inl ⟨j, d, rfl, hj.1, hj.2, hd.1, hd.2⟩)))
  · exact .inr (.inr (.inr (.inr (.inl ⟨j, rfl, hj⟩))))
  · exact .inl rfl
  · exact .inr (.inl rfl)
  · exact .inr (.inr (.inr (.inr (.inr (.inl rfl)))))
  · exact .inr (.inr (.inr (.inr (.inr (.inr (.inl rfl))))))
  · exact .inr (.inr (.inr (.inr (.inr (.inr (.inr rfl))))))
theorem deedV_mem {D : Deck} {b r : Int} (hb : 2 ≤ b) (hr : 1 ≤ r) : deedV D b r ∈ allDeeds b r :=
  deedAt_mem ⟨dv_lo (by decide), dv_hi (by decide)⟩ (by
    have h1 : 0 ≤ dv (dn D 8) (b - 1) := dv_lo (by omega)
    have h2 : dv (dn D 8) (b - 1) < b - 1 := dv_hi (by omega)
    omega) ⟨dv_lo (by omega), dv_hi (by omega)⟩
end SY
namespace SY
open PySem PySem.Spec L2 SX
theorem Le.trans {a b c : En} (h1 : Le a b) (h2 : Le b c) : Le a c := ⟨h1.1.trans h2.1, fun k P h => by
  obtain ⟨P1, h3, h4⟩ := h2.2 k P h
  obtain ⟨P0, h5, h6⟩ := h1.2 k P1 h3
  exact ⟨P0, h5, fun G v z => h4 G v (h6 G v z)⟩⟩
end SY
set_option Elab.async false
set_option linter.all false
set_option maxRecDepth 100000
namespace SY
open PySem PySem.Spec L2 SX
end SY
namespace SY
open PySem PySem.Spec L2 SX
end SY
namespace SY
open PySem PySem.Spec L2 SX
end SY
namespace SY
end SY
set_option Elab.async false
set_option linter.all false
set_option maxRecDepth 100000
namespace SY
open PySem PySem.Spec L2 SX
end SY
namespace SY
open PySem PySem.Spec L2 SX
end SY
namespace SY
open PySem PySem.Spec L2 SX
end SY
set_option Elab.async false
set_option linter.all false
set_option maxRecDepth 100000
namespace SY
open PySem PySem.Spec L2 SX
structure Wr where
  figs : List Int
  wait : Option Int
  carry : Int
def deedOn (sl : List (Int × Deed)) (a : Int) : Deed := ((sl.find? fun s => decide (s.1 = a)).map fun s => s.2).getD .right
def lawW1 (b f c : Int) (x : Deed) (W : Wr) : Wr :=
  match W.wait with
  | some w => ⟨W.figs ++ [f, w], none, c⟩
  | none => match x with
    | .swap => ⟨W.figs, some f, c⟩
    | .off d => ⟨W.figs ++ [(f + d) % b], none, c⟩
    | _ => ⟨W.figs ++ [f], none, c⟩
def lawW (b t : Int) (x : Deed) (W : Wr) : Wr :=
  match x with
  | .out => W
  | .twice => let W1 := lawW1 b ((t + W.carry) % b) ((t + W.carry) / b) x W; ⟨W1.figs ++ [(t + (t + W.carry) / b) % b], W1.wait, (t + (t + W.carry) / b) / b⟩
  | .forget => let W1 := lawW1 b ((t + W.carry) % b) ((t + W.carry) / b) x W; ⟨W1.figs, W1.wait, 0⟩
  | .again => let W1 := lawW1 b ((t + W.carry) % b) ((t + W.carry) / b) x W; ⟨W1.figs, W1.wait, (t + W.carry) / b + 1⟩
  | x => lawW1 b ((t + W.carry) % b) ((t + W.carry) / b) x W
def wrL (b : Int) (cs : List (List Int)) (sl : List (Int × Deed)) : Nat → Wr
  | 0 => ⟨[], none, 0⟩
  | n + 1 => lawW b (lawTaken b cs n (deedOn sl n)).sum (deedOn sl n) (wrL b cs sl n)
/-- the law's own word on a deed, behind these columns -/
def posW (b m : Int) (cs : List (List Int)) (sl : List (Int × Deed)) (c : List Int) (x : Deed) : Bool :=
  if ((!isNon (oiD (wrL b cs sl cs.length).wait)) || decide ((sl.length : Int) ≥ m)) = true then false
  else match x with
    | .copy _ => decide ((cs.length : Int) > 0)
    | .forget => decide (c.sum + (wrL b cs sl cs.length).carry ≥ b)
    | _ => true
end SY
set_option Elab.async false
set_option linter.all false
set_option maxRecDepth 100000
namespace SY
open PySem PySem.Spec L2 SX
section
variable {K : PySem.W.Frag} {te : TE} {δ : En} {μ μa μb : Mp} {P : Pr} {ds : List PyData} {ad : Addr}
/-- what is owned stays just as it is -/
def E1s (te : TE) (δ : En) (μ : Mp) (P : Pr) : Prop := ∀ σ G M, Sl G σ δ → Mm G M μ → Ev te σ G M (fun G' v M' => P.p G' v ∧ M' = M)
theorem E1s.e (h : E1s te δ μ P) : E1 te δ μ P μ := fun σ G M s m G1 H F e m1 Q q => h σ G M s m G1 H F e m1 Q fun v G2 M2 H2 e2 m2 r => by
  obtain ⟨r1, rfl⟩ := r
  exact q v G2 M2 H2 e2 m2 ⟨r1, m.mono (e.trans e2)⟩
theorem E1s.of (h : E1 te δ [] P []) : E1s te δ μ P := fun σ G M s m G1 H F e m1 Q q => h σ G [] s trivial G1 H (M ++ F) e m1 Q fun v G2 M2 H2 e2 m2 r => by
  obtain ⟨r1, r2⟩ := r
  have := r2.nil
  subst this
  exact q v G2 M H2 e2 m2 ⟨r1, rfl⟩
end
/-- columns and slips that were played -/
inductive Play (b r m : Int) (ds : List Deed) : List (List Int) → List (Int × Deed) → Prop
  | nil : Play b r m ds [] []
  | right {cs : List (List Int)} {sl : List (Int × Deed)} {c : List Int} : Play b r m ds cs sl → ColOk b r c → Play b r m ds (cs ++ [c]) sl
  | deed {cs : List (List Int)} {sl : List (Int × Deed)} {c : List Int} {x : Deed} : Play b r m ds cs sl → ColOk b r c → x ∈ ds → posW b m cs sl c x = true → Play b r m ds (cs ++ [c]) (sl ++ [((cs.length : Int), x)])
section
variable {b r m : Int} {cp lot : List Int} {ds : List Deed} {cs : List (List Int)} {c : List Int} {sl : List (Int × Deed)} {x : Deed}
theorem Play.pos (h : Play b r m ds cs sl) : ∀ s ∈ sl, 0 ≤ s.1 ∧ s.1 < cs.length ∧ s.2 ∈ ds := by
  induction h with
  | nil => intro s hs; cases hs
  | right _ _ ih =>
    intro s hs
    have := ih s hs
    exact ⟨this.1, by simp; omega, this.2.2⟩
  | deed _ _ hx _ ih =>
    intro s hs
    rcases List.mem_append.mp hs with hs | hs
    · have := ih s hs
      exact ⟨this.1, by simp; omega, this.2.2⟩
    · rw [List.mem_singleton.mp hs]
      exact ⟨by show (0 : Int) ≤ _; omega, by show ((_ : Nat) : Int) < _; simp; omega, hx⟩
theorem Play.lt (h : Play b r m ds cs sl) : ∀ s ∈ sl, s.1 < cs.length := fun s hs => (h.pos s hs).2.1
theorem Play.len (h : Play b r m ds cs sl) : sl.length ≤ cs.length := by
  induction h with
  | nil => exact Nat.le_refl _
  | right _ _ ih => simp; omega
  | deed _ _ _ _ ih => simp; omega
theorem Play.cols (h : Play b r m ds cs sl) : ∀ c ∈ cs, ColOk b r c := by
  induction h with
  | nil => intro s hs; cases hs
  | right _ hc ih => intro s hs; rcases List.mem_append.mp hs with hs | hs; exact ih s hs; rw [List.mem_singleton.mp hs]; exact hc
  | deed _ hc _ _ ih => intro s hs; rcases List.mem_append.mp hs with hs | hs; exact ih s hs; rw [List.mem_singleton.mp hs]; exact hc
theorem Play.sh (h : Play b r m ds cs sl) (hb : 2 ≤ b ∧ b ≤ 12) (hr : 1 ≤ r ∧ r ≤ 4) (hl : cs.length ≤ 10000) : GoodSh b r cs := ⟨hb.1, hb.2, hr.1, hr.2, hl, fun c hc => ⟨(h.cols c hc).len, (h.cols c hc).fig⟩⟩
theorem Play.take (h : Play b r m ds cs sl) (n : Nat) : Play b r m ds (cs.take n) (sl.filter fun s => decide (s.1 < (n : Int))) := by
  induction h with
  | nil => rw [List.take_nil]; exact .nil
  | @right cs sl c hp hc ih =>
    by_cases hn : n ≤ cs.length
    · rw [List.take_append_of_le_length hn]
      exact ih
    · rw [List.take_of_length_le (by simp; omega), List.filter_eq_self.mpr (fun s hs => by have := hp.lt s hs; simp; omega)]
      exact .right hp hc
  | @deed cs sl c x hp hc hx hpos ih =>
    by_cases hn : n ≤ cs.length
    · rw [List.take_append_of_le_length hn, List.filter_append, List.filter_cons_of_neg (by simp; omega), List.filter_nil, List.append_nil]
      exact ih
    · rw [List.take_of_length_le (by simp; omega), List.filter_eq_self.mpr (fun s hs => ?_)]
      · exact .deed hp hc hx hpos
      · rcases List.mem_append.mp hs with hs | hs
        · have := hp.lt s hs; simp; omega
        · rw [List.mem_singleton.mp hs]; simp; omega
end
end SY
set_option Elab.async false
set_option linter.all false
set_option maxRecDepth 100000
namespace SY
open PySem PySem.Spec L2 SX
end SY
namespace SY
open PySem PySem.Spec L2 SX
section
variable {E : XK} {K : PySem.W.Frag} {te : TE} {tA : TA} {δ : En} {μ μ' μ1 μ2 : Mp} {Q : Pr} {P : PY} {g : TG} {u : TS} {R : Pr → Mp → Prop}
theorem E1.perm (h : E1 te δ μ Q μ1) (p : μ.Perm μ') (p1 : μ2.Perm μ1) : E1 te δ μ' Q μ2 := fun σ G M s mm G1 H F e m1 q z => by
  obtain ⟨M', h1, h2⟩ := Mm.perm p mm
  refine h σ G M' s h2 G1 H F e (m1.perm (h1.append_right F)) q fun v G2 M2 H2 e2 m2 r => ?_
  obtain ⟨M3, h3, h4⟩ := Mm.perm p1 r.2
  exact z v G2 M3 H2 e2 (m2.perm (h3.append_right F)) ⟨r.1, h4⟩
end
end SY
namespace SY
open PySem PySem.Spec L2 SX
end SY
set_option Elab.async false
set_option linter.all false
set_option maxRecDepth 100000
namespace SY
open PySem PySem.Spec L2 SX
end SY
namespace SY
open PySem PySem.Spec L2 SX
end SY
set_option Elab.async false
set_option linter.all false
set_option maxRecDepth 100000
namespace SY
open PySem PySem.Spec L2 SX
end SY
namespace SY
open PySem PySem.Spec L2 SX
end SY
namespace SY
open PySem PySem.Spec L2 SX
end SY
namespace SY
open PySem PySem.Spec L2 SX
end SY
namespace SY
open PySem PySem.Spec L2 SX
end SY
namespace SY
open PySem PySem.Spec L2 SX
end SY
set_option Elab.async false
set_option linter.all false
set_option maxRecDepth 100000
namespace SY
open PySem PySem.Spec L2 SX
end SY
set_option Elab.async false
set_option linter.all false
set_option maxRecDepth 100000
namespace SY
abbrev CssT := List (List (List Int))
open PySem PySem.Spec L2 SX
def GoodCss (b r : Int) (ls : List Addr) (css : CssT) : Prop := ls.length = 3 ∧ List.length css = 3 ∧ ∀ cs ∈ css, GoodSh b r cs ∧ cs.length ≤ 60
theorem set_mem {α : Type} {l : List α} {i : Nat} {x y : α} (h : y ∈ l.set i x) : y = x ∨ y ∈ l := by
  rcases List.mem_or_eq_of_mem_set h with h | h
  · exact .inr h
  · exact .inl h
section
variable {K : PySem.W.Frag} {C dk sa ea : Addr} {b r : Int} {Dk : Deck} {ls : List Addr} {css : CssT} {a i : Nat} {c : List (List Int)} {l : Addr}
theorem GoodCss.set (g : GoodCss b r ls css) (l : Addr) (h : GoodSh b r c ∧ c.length ≤ 60) : GoodCss b r (ls.set a l) (css.set a c) := ⟨by rw [List.length_set]; exact g.1, by rw [List.length_set]; exact g.2.1, fun cs hc => by
  rcases set_mem hc with rfl | hc
  · exact h
  · exact g.2.2 cs hc⟩
theorem GoodCss.get (g : GoodCss b r ls css) (h : a < 3) : ∃ l c, ls[a]? = some l ∧ css[a]? = some c ∧ GoodSh b r c ∧ c.length ≤ 60 := by
  have h1 : a < ls.length := by rw [g.1]; exact h
  have h2 : a < List.length css := by rw [g.2.1]; exact h
  exact ⟨_, _, List.getElem?_eq_getElem h1, List.getElem?_eq_getElem h2, g.2.2 _ (List.getElem_mem h2)⟩
theorem GoodSh.set {cs : List (List Int)} {x : List Int} (g : GoodSh b r cs) (h : GoodCol b r x) : GoodSh b r (cs.set i x) := ⟨g.b2, g.b12, g.r1, g.r4, by rw [List.length_set]; exact g.len, fun c hc => by
  rcases set_mem hc with rfl | hc
  · exact h
  · exact g.col c hc⟩
end
end SY
set_option Elab.async false
set_option linter.all false
set_option maxRecDepth 100000
namespace SY
open PySem PySem.Spec L2 SX
def RowOrd (r : Int) (ord : List Int) : Prop := ord.Perm ((List.range r.toNat).map Int.ofNat)
theorem RowOrd.len {r : Int} {ord : List Int} (h : RowOrd r ord) : ord.length = r.toNat := by
  rw [h.length_eq, List.length_map, List.length_range]
end SY
set_option Elab.async false
set_option linter.all false
set_option maxRecDepth 100000
namespace SY
open PySem PySem.Spec L2 SX
end SY
set_option Elab.async false
set_option linter.all false
set_option maxRecDepth 100000
namespace SY
open PySem PySem.Spec L2 SX
end SY
set_option Elab.async false
set_option linter.all false
set_option maxRecDepth 100000
namespace SY
open PySem PySem.Spec L2 SX
end SY
set_option Elab.async false
set_option linter.all false
set_option maxRecDepth 100000
namespace SY
open PySem PySem.Spec L2 SX
/-- an empty dict -/
def Dc : Pr := ⟨fun G v => ∃ a, v = .ref a ∧ G a = some (.dK []), fun G G' v e h => by obtain ⟨a, h1, h2⟩ := h; exact ⟨a, h1, e _ _ h2⟩⟩
end SY
set_option Elab.async false
set_option linter.all false
set_option maxRecDepth 100000
namespace SY
open PySem PySem.Spec L2 SX
end SY
set_option Elab.async false
set_option linter.all false
set_option maxRecDepth 100000
namespace SY
open PySem PySem.Spec L2 SX
end SY
set_option Elab.async false
set_option linter.all false
set_option maxRecDepth 100000
namespace SY
open PySem PySem.Spec L2 SX
/-- str(i) -/
abbrev rStrI : List V → Hp → VK → Prop := fun xs H Q => ∃ i, xs = [.int i] ∧ i.natAbs.log2 < 1920 ∧ Q (.str (Str.ofString (toString i))) H
theorem c_strI {X : Cx} : CallR X (.type "str") rStrI := call_str_int
section
variable {K : PySem.W.Frag} {ta tb : TE} {δ : En} {μ μ1 μ2 : Mp} {P1 P2 : Pr} {d e : PyData} {b : Bool} {i : Int}
theorem e_strI (h : E1 ta δ μ (D K (.int i)) μ1) (hi : i.natAbs.log2 < 1920) : E1 (tCB rStrI (tCons ta tNil)) δ μ (D K (.str (Str.ofString (toString i)))) μ1 :=
  e_CB1 h fun G H F M v m mm p Q q => ⟨i, by rw [dp_int p], hi, q _ G M H (Ex.refl _) m (.str _) mm⟩
end
end SY
set_option Elab.async false
set_option linter.all false
set_option maxRecDepth 100000
namespace SY
open PySem PySem.Spec L2 SX
end SY
set_option Elab.async false
set_option linter.all false
set_option maxRecDepth 100000
namespace SY
open PySem PySem.Spec L2 SX PyProof.Rows
end SY
set_option Elab.async false
set_option linter.all false
set_option maxRecDepth 100000
namespace SX
open PySem PySem.Spec L2 PyProof.Rows
end SX
namespace SY
open PySem PySem.Spec L2 SX
end SY
namespace SY
open PySem PySem.Spec L2 SX
abbrev rAddS : R2 := fun x y H Q => ∃ i j, x = V.str i ∧ y = V.str j ∧ i.length + j.length ≤ sizeLine ∧ Q (V.str (i ++ j)) H
theorem e_addS {K : PySem.W.Frag} {ta tb : TE} {δ : En} {μ μ1 μ2 : Mp} {s t : Str} (h1 : E1 ta δ μ (D K (.str s)) μ1) (h2 : E1 tb δ μ1 (D K (.str t)) μ2) (hl : s.length + t.length ≤ sizeLine) : E1 (tOp rAddS ta tb) δ μ (D K (.str (s ++ t))) μ2 :=
  e_op h1 h2 fun G H F M x y m mm p1 p2 Q q => by
    rw [dp_str p1, dp_str p2]
    exact ⟨s, t, rfl, rfl, hl, q _ G M H (Ex.refl _) m (.str _) mm⟩
end SY
set_option Elab.async false
set_option linter.all false
set_option maxRecDepth 100000
namespace SY
open PySem PySem.Spec L2 SX
/-- the last k digits -/
def padL : Nat → Nat → List Nat
  | 0, _ => []
  | k + 1, m => padL k (m / 10) ++ [48 + m % 10]
theorem numL_pad : ∀ (k n : Nat), 10 ^ k ≤ n → TL.numL n = TL.numL (n / 10 ^ k) ++ padL k (n % 10 ^ k)
  | 0, n, _ => by simp [padL]
  | k + 1, n, h => by
    have h10 : 10 ^ (k + 1) = 10 ^ k * 10 := Nat.pow_succ 10 k
    have hp : 0 < 10 ^ k := Nat.pow_pos (by decide)
    have h1 : 10 ^ k ≤ n / 10 := by
      rw [Nat.le_div_iff_mul_le (by decide)]
      omega
    have hn : 10 ≤ n := by
      have : 1 ≤ n / 10 := by omega
      omega
    rw [TL.numL_step hn, numL_pad k (n / 10) h1]
    have e1 : n / 10 / 10 ^ k = n / 10 ^ (k + 1) := by rw [Nat.div_div_eq_div_mul, h10, Nat.mul_comm]
    have e2 : n % 10 ^ (k + 1) / 10 = n / 10 % 10 ^ k := by
      rw [h10, Nat.mul_comm]
      exact Nat.mod_mul_right_div_self n 10 (10 ^ k)
    have e3 : n % 10 ^ (k + 1) % 10 = n % 10 := Nat.mod_mod_of_dvd n (by rw [h10]; exact Nat.dvd_mul_left 10 (10 ^ k))
    rw [e1]
    show _ = _ ++ (padL k (n % 10 ^ (k + 1) / 10) ++ [48 + n % 10 ^ (k + 1) % 10])
    rw [e2, e3, List.append_assoc]
theorem padL_zero : ∀ k, padL k 0 = List.replicate k 48
  | 0 => rfl
  | k + 1 => by
    show padL k 0 ++ [48] = _
    rw [padL_zero k, List.replicate_succ']
theorem padL_num : ∀ (k m : Nat), m < 10 ^ (k + 1) → padL (k + 1) m = List.replicate (k + 1 - (TL.numL m).length) 48 ++ TL.numL m
  | 0, m, h => by
    have hm : m < 10 := by simpa using h
    rw [TL.numL_lt hm]
    show [] ++ [48 + m % 10] = _
    rw [Nat.mod_eq_of_lt hm]
    rfl
  | k + 1, m, h => by
    have h10 : 10 ^ (k + 1 + 1) = 10 ^ (k + 1) * 10 := Nat.pow_succ 10 (k + 1)
    show padL (k + 1) (m / 10) ++ [48 + m % 10] = _
    by_cases hm : m < 10
    · rw [Nat.div_eq_of_lt hm, padL_zero, TL.numL_lt hm, Nat.mod_eq_of_lt hm]
      rfl
    · have h1 : m / 10 < 10 ^ (k + 1) := by
        rw [Nat.div_lt_iff_lt_mul (by decide)]
        rw [h10] at h
        exact h
      have hst := TL.numL_step (n := m) (by omega)
      have hln : (TL.numL m).length = (TL.numL (m / 10)).length + 1 := by rw [hst, List.length_append]; rfl
      rw [padL_num k (m / 10) h1, hln, hst, List.append_assoc]
      have : k + 1 - (TL.numL (m / 10)).length = k + 1 + 1 - ((TL.numL (m / 10)).length + 1) := by omega
      rw [this]
theorem zfill_num {m : Nat} (h : m < 10 ^ 9) : Txt.zfill (S (TL.numL m)) 9 = S (padL 9 m) := by
  have hl := TL.numL_len (k := 9) (by decide) h
  rw [padL_num 8 m h]
  have hL : (S (TL.numL m)).length = (TL.numL m).length := S_len _
  unfold Txt.zfill
  rw [hL]
  by_cases h9 : (9 : Int) ≤ ((TL.numL m).length : Nat)
  · rw [if_pos h9]
    have : 8 + 1 - (TL.numL m).length = 0 := by omega
    rw [this]
    rfl
  · rw [if_neg h9]
    obtain ⟨c, r, hcr⟩ : ∃ c r, TL.numL m = c :: r := by
      cases hq : TL.numL m with
      | nil => exact absurd hq (TL.numL_ne m)
      | cons c r => exact ⟨c, r, rfl⟩
    have hc := TL.numL_digits m c (by rw [hcr]; exact List.mem_cons_self ..)
    have hn : ((9 : Int).toNat - (TL.numL m).length) = 8 + 1 - (TL.numL m).length := rfl
    rw [hn]
    generalize 8 + 1 - (TL.numL m).length = n
    have hx : (S (TL.numL m)).cps[0]? = some c := by rw [hcr]; rfl
    have hz : zfilled (S (TL.numL m)) n = Builtin.Str.padded (S (TL.numL m)) n 0 48 := by
      unfold zfilled
      rw [hx]
      split
      · rename_i h; cases h; omega
      · rename_i h; cases h; omega
      · rfl
    rw [hz]
    unfold Builtin.Str.padded
    show (⟨Array.replicate n 48 ++ (TL.numL m).toArray ++ Array.replicate 0 48⟩ : Str) = ⟨(List.replicate n 48 ++ TL.numL m).toArray⟩
    congr 1
    apply Array.ext'
    simp
/-- the text of these code points, as data -/
abbrev tD (l : List Nat) : PyData := .str (S l)
theorem one_digit : ∀ k : Fin 10, Builtin.Str.occurrences (Str.ofString "0123456789") (S [48 + k.val]) 0 (Str.ofString "0123456789").length 1 = [k.val] := by decide +kernel
theorem digits_S : Str.ofString "0123456789" = S [48, 49, 50, 51, 52, 53, 54, 55, 56, 57] := by decide +kernel
abbrev rNotInS : R2 := fun x y H Q => ∃ i j, x = V.str i ∧ y = V.str j ∧ Q (.bl (!(!(Builtin.Str.occurrences j i 0 j.length 1).isEmpty))) H
abbrev rJoin (K : PySem.W.Frag) : V → List V → Hp → VK → Prop := fun x xs H Q => ∃ a p, ∃ ys : List Str, x = .str a ∧ xs = [.ref p] ∧ (SqL K H p (ys.map V.str) ∨ SqT K H p (ys.map V.str)) ∧ (ys.map (·.length)).sum + ys.length * a.length ≤ 16777216 ∧ Q (.str (Txt.join a ys)) H
abbrev rSplit : V → List V → Hp → VK → Prop := fun x xs H Q => ∃ a b, x = .str a ∧ xs = [.str b] ∧ (b.length == 0) = false ∧ a.length + 2 ≤ sizeLine ∧ rNewStrs (Txt.split a b) H Q
abbrev rPart : V → List V → Hp → VK → Prop := fun x xs H Q => ∃ a b, x = .str a ∧ xs = [.str b] ∧ (b.length == 0) = false ∧ a.length ≤ sizeLine ∧ ∀ p, H p = none → Q (.ref p) (upd H p (.tup [.str (Txt.partition a b).1, .str (Txt.partition a b).2.1, .str (Txt.partition a b).2.2]))
abbrev rZfill : V → List V → Hp → VK → Prop := fun x xs H Q => ∃ (a : Str) (i : Int), x = .str a ∧ xs = [.int i] ∧ PadOk i = true ∧ Q (.str (Txt.zfill a i)) H
abbrev rSidx : V → List V → Hp → VK → Prop := fun x xs H Q => ∃ a b i rest, x = .str a ∧ xs = [.str b] ∧ Builtin.Str.occurrences a b 0 a.length 1 = i :: rest ∧ Q (.int (i : Nat)) H
section
variable {K : PySem.W.Frag} {te ta tb tc : TE} {δ : En} {μ μ' μ1 μ2 μ3 : Mp} {P : Pr} {l m : List Nat} {i : Int} {c : Nat} {s t u : Str} {ss : List Str} {ds : List PyData}
theorem i_str (h : E1 te δ μ (D K (tD l)) μ') : IY (iStr te) δ μ l.length (fun i => D K (tD [l.getD i 0])) μ' := fun σ G M s m G1 H F e m1 Q q =>
  h σ G M s m G1 H F e m1 _ fun v G2 M2 H2 e2 m2 r2 => by
    have hv := dp_str r2.1
    subst hv
    refine ⟨_, rfl, q _ G2 M2 H2 e2 m2 r2.2 ⟨⟨fun _ => True, fun i H v H' => H' = H ∧ ∃ c, l.toArray[i]? = some c ∧ v = .str ⟨#[c]⟩, ⟨fun i _ hi _ => by show i < l.toArray.size; simpa using hi, fun _ _ => by show l.toArray.size ≤ l.length; simp, fun _ _ _ _ _ _ y => y⟩, fun _ _ _ _ _ _ _ _ _ => trivial, fun i G3 M3 F3 H3 x H4 Mk hi e3 m3 hsub hkp y => ?_⟩⟩⟩
    obtain ⟨rfl, c, hc, rfl⟩ := y
    have hc : l[i]? = some c := by simpa using hc
    refine ⟨G3, Ex.refl _, m3, ?_⟩
    rw [List.getD_eq_getElem?_getD, hc]
    exact .str _
theorem e_notinS (h1 : E1 ta δ μ (D K (tD [c])) μ1) (h2 : E1 tb δ μ1 (D K (tD l)) μ2) : E1 (tOp rNotInS ta tb) δ μ (D K (.bool (!decide (c ∈ l)))) μ2 :=
  e_op h1 h2 fun G H F M x y mm0 mm p1 p2 Q q => by
    rw [dp_str p1, dp_str p2]
    refine ⟨_, _, rfl, rfl, ?_⟩
    have := in_one l c
    have e : (!(Builtin.Str.occurrences (S l) (S [c]) 0 (S l).length 1).isEmpty) = decide (c ∈ l) := this
    rw [e]
    exact q _ G M H (Ex.refl _) mm0 (.bl _) mm
theorem e_ixS (h1 : E1 ta δ μ (D K (tD (c :: l))) μ1) (h2 : E1 tb δ μ1 (D K (.int 0)) μ2) (hl : l.length ≤ 1000000) : E1 (tOp rIxS ta tb) δ μ (D K (tD [c])) μ2 :=
  e_op h1 h2 fun G H F M x y mm0 mm p1 p2 Q q => by
    rw [dp_str p1, dp_int p2]
    exact ⟨_, 0, c, rfl, rfl, by rw [S_len, sizeLine_eq]; show l.length + 1 ≤ _; omega, atI_int (Int.le_refl _) rfl, q _ G M H (Ex.refl _) mm0 (.str _) mm⟩
theorem t_truS (h : E1 ta δ μ (D K (tD l)) μ1) (hl : l.length ≤ 1000000) : T1 (fun σ H Q => ta σ H fun x H' => ∃ k, TruV K x H' k ∧ Q k H') δ μ (!l.isEmpty) μ1 := fun σ G M s m G1 H F e m1 Q q =>
  h σ G M s m G1 H F e m1 _ fun v G2 M2 H2 e2 m2 r2 => by
    have hv := dp_str r2.1
    subst hv
    refine ⟨!l.isEmpty, ⟨by rw [S_len, sizeLine_eq]; omega, ?_⟩, q _ _ _ e2 m2 r2.2⟩
    rw [S_len]
    cases l with
    | nil => rfl
    | cons c l =>
      symm
      simp only [List.length_cons, bne_iff_ne, ne_eq]
      show _ = true
      simp
      omega
theorem t_truL (h : E1 ta δ μ P μ1) (hl : LR K P μ1 ds) : T1 (fun σ H Q => ta σ H fun x H' => ∃ k, TruV K x H' k ∧ Q k H') δ μ (!ds.isEmpty) μ1 := fun σ G M s m G1 H F e m1 Q q =>
  h σ G M s m G1 H F e m1 _ fun v G2 M2 H2 e2 m2 r2 => by
    obtain ⟨a, xs, rfl, h3, h4⟩ := hl.at G2 v M2 F H2 r2.1 r2.2 m2
    refine ⟨!ds.isEmpty, .inl ⟨xs, h3, ?_⟩, q _ _ _ e2 m2 r2.2⟩
    cases h4 <;> rfl
theorem dpa_str : ∀ {ss : List Str} {xs : List V} {G : Hp}, DpAll K G xs (ss.map PyData.str) → xs = ss.map V.str
  | [], _, _, h => by cases h; rfl
  | s :: ss, _, _, h => by
    cases h with
    | cons a b => rw [dp_str a, dpa_str b]; rfl
theorem e_join (h1 : E1 ta δ μ (D K (.str s)) μ1) (h2 : E1 tb δ μ1 P μ2) (hl : LR K P μ2 (ss.map .str)) (hz : (ss.map (·.length)).sum + ss.length * s.length ≤ 16777216) : E1 (tM1 (rJoin K) ta tb) δ μ (D K (.str (Txt.join s ss))) μ2 := fun σ G M sl m G1 H F e m1 Q q =>
  h1 σ G M sl m G1 H F e m1 _ fun v G2 M2 H2 e2 m2 r2 => by
    have hv := dp_str r2.1
    subst hv
    exact ⟨⟨_, rfl⟩, h2 σ G2 M2 (sl.mono (e.trans e2)) r2.2 G2 H2 F (Ex.refl _) m2 _ fun w G3 M3 H3 e3 m3 r3 => by
      obtain ⟨a, xs, rfl, h3, h4⟩ := hl.at G3 w M3 F H3 r3.1 r3.2 m3
      rw [dpa_str h4] at h3
      exact ⟨s, a, ss, rfl, rfl, .inl h3, hz, q _ _ _ _ (e2.trans e3) m3 ⟨.str _, r3.2⟩⟩⟩
theorem dpa_of_strs {G : Hp} : ∀ ss : List Str, DpAll K G (ss.map V.str) (ss.map PyData.str)
  | [] => .nil
  | s :: ss => .cons (.str s) (dpa_of_strs ss)
theorem o_split (h1 : E1 ta δ μ (D K (.str s)) μ1) (h2 : E1 tb δ μ1 (D K (.str t)) μ2) (ht : (t.length == 0) = false) (hs : s.length + 2 ≤ sizeLine) (he : Txt.split s t = ss) : EO K (tM1 rSplit ta tb) δ μ (ss.map .str) μ2 := fun σ G M sl m G1 H F e m1 Q q =>
  h1 σ G M sl m G1 H F e m1 _ fun v G2 M2 H2 e2 m2 r2 => by
    have hv := dp_str r2.1
    subst hv
    exact ⟨⟨_, rfl⟩, h2 σ G2 M2 (sl.mono (e.trans e2)) r2.2 G2 H2 F (Ex.refl _) m2 _ fun w G3 M3 H3 e3 m3 r3 => by
      have hw := dp_str r3.1
      subst hw
      refine ⟨s, t, rfl, rfl, ht, hs, fun p hp => ?_⟩
      rw [he]
      exact q _ G3 _ _ (e2.trans e3) (m3.newMid hp) ⟨p, _, M3, rfl, rfl, dpa_of_strs ss, r3.2⟩⟩
theorem e_part (h1 : E1 ta δ μ (D K (.str s)) μ1) (h2 : E1 tb δ μ1 (D K (.str t)) μ2) (ht : (t.length == 0) = false) (hs : s.length ≤ sizeLine) {a b c : Str} (he : Txt.partition s t = (a, b, c)) : E1 (tM1 rPart ta tb) δ μ (D K (.tuple [.str a, .str b, .str c])) μ2 := fun σ G M sl m G1 H F e m1 Q q =>
  h1 σ G M sl m G1 H F e m1 _ fun v G2 M2 H2 e2 m2 r2 => by
    have hv := dp_str r2.1
    subst hv
    exact ⟨⟨_, rfl⟩, h2 σ G2 M2 (sl.mono (e.trans e2)) r2.2 G2 H2 F (Ex.refl _) m2 _ fun w G3 M3 H3 e3 m3 r3 => by
      have hw := dp_str r3.1
      subst hw
      refine ⟨s, t, rfl, rfl, ht, hs, fun p hp => ?_⟩
      rw [he]
      exact q _ _ M3 _ ((e2.trans e3).trans (Ex.new (m3.free hp))) (m3.newF hp) ⟨.tup (SqT.of upd_same) (.cons (.str a) (.cons (.str b) (.cons (.str c) .nil))), r3.2.mono (Ex.new (m3.free hp))⟩⟩
theorem e_zfill (h1 : E1 ta δ μ (D K (.str s)) μ1) (h2 : E1 tb δ μ1 (D K (.int i)) μ2) (hp : PadOk i = true) : E1 (tM1 rZfill ta tb) δ μ (D K (.str (Txt.zfill s i))) μ2 := fun σ G M sl m G1 H F e m1 Q q =>
  h1 σ G M sl m G1 H F e m1 _ fun v G2 M2 H2 e2 m2 r2 => by
    have hv := dp_str r2.1
    subst hv
    exact ⟨⟨_, rfl⟩, h2 σ G2 M2 (sl.mono (e.trans e2)) r2.2 G2 H2 F (Ex.refl _) m2 _ fun w G3 M3 H3 e3 m3 r3 => by
      have hw := dp_int r3.1
      subst hw
      exact ⟨s, i, rfl, rfl, hp, q _ G3 M3 H3 (e2.trans e3) m3 ⟨.str _, r3.2⟩⟩⟩
theorem e_sidx {k : Nat} (h1 : E1 ta δ μ (D K (.str s)) μ1) (h2 : E1 tb δ μ1 (D K (.str t)) μ2) (ho : Builtin.Str.occurrences s t 0 s.length 1 = [k]) : E1 (tM1 rSidx ta tb) δ μ (D K (.int (k : Int))) μ2 := fun σ G M sl m G1 H F e m1 Q q =>
  h1 σ G M sl m G1 H F e m1 _ fun v G2 M2 H2 e2 m2 r2 => by
    have hv := dp_str r2.1
    subst hv
    exact ⟨⟨_, rfl⟩, h2 σ G2 M2 (sl.mono (e.trans e2)) r2.2 G2 H2 F (Ex.refl _) m2 _ fun w G3 M3 H3 e3 m3 r3 => by
      have hw := dp_str r3.1
      subst hw
      exact ⟨s, t, k, [], rfl, rfl, ho, q _ G3 M3 H3 (e2.trans e3) m3 ⟨.int _, r3.2⟩⟩⟩
/-- f"{..}..{..}" of three texts -/
theorem e_fs3 (h1 : E1 ta δ μ (D K (.str s)) μ1) (h2 : E1 tb δ μ1 (D K (.str t)) μ2) (h3 : E1 tc δ μ2 (D K (.str u)) μ3) (hl : (((Str.empty ++ s) ++ t) ++ u).length ≤ sizeLine) (hl1 : s.length ≤ sizeLine) (hl2 : (Str.empty ++ s).length ≤ sizeLine) (hl3 : ((Str.empty ++ s) ++ t).length ≤ sizeLine) (hl4 : u.length ≤ sizeLine) :
    E1 (fun σ H Q => tJs [tFmt ta, tb, tFmt tc] Str.empty σ H fun out H1 => Q (.str out) H1) δ μ (D K (.str (((Str.empty ++ s) ++ t) ++ u))) μ3 := fun σ G M sl m G1 H F e m1 Q q =>
  h1 σ G M sl m G1 H F e m1 _ fun v G2 M2 H2 e2 m2 r2 => by
    have hv := dp_str r2.1
    subst hv
    refine .inl ⟨s, rfl, hl1, s, rfl, hl2, ?_⟩
    exact h2 σ G2 M2 (sl.mono (e.trans e2)) r2.2 G2 H2 F (Ex.refl _) m2 _ fun w G3 M3 H3 e3 m3 r3 => by
      have hw := dp_str r3.1
      subst hw
      refine ⟨t, rfl, hl3, ?_⟩
      exact h3 σ G3 M3 (sl.mono ((e.trans e2).trans e3)) r3.2 G3 H3 F (Ex.refl _) m3 _ fun x G4 M4 H4 e4 m4 r4 => by
        have hx := dp_str r4.1
        subst hx
        exact .inl ⟨u, rfl, hl4, u, rfl, hl, q _ G4 M4 H4 ((e2.trans e3).trans e4) m4 ⟨.str _, r4.2⟩⟩
end
def dpL (x : Deed) : List (List Nat) := TL.tl x.word :: (Deed.args x).map fun i => TL.numL i.toNat
def dtL (x : Deed) : List Nat := TL.joinL [32] (dpL x)
def slL (s : Int × Deed) : List Nat := TL.numL s.1.toNat ++ (32 :: dtL s.2)
def slsL (sl : List (Int × Deed)) : List Nat := if sl = [] then [45] else TL.joinL [44, 32] (sl.map slL)
theorem deeds12 : (allDeeds 12 4).all (fun x => (dtL x).all (fun c => decide (c ≠ 44)) && decide ((dtL x).length ≤ 12)) = true := by decide +kernel
theorem dtL_inj : ((allDeeds 12 4).all fun x => (allDeeds 12 4).all fun y => !decide (dtL x = dtL y) || decide (x = y)) = true := by decide +kernel
theorem log_18 {i : Int} (h : 0 ≤ i ∧ i < 10 ^ 18) : i.natAbs.log2 < 1920 := by
  by_cases h0 : i.natAbs = 0
  · rw [h0]
    decide
  · rw [Nat.log2_lt h0]
    have h1 : i.natAbs < 10 ^ 18 := by omega
    have h2 : (10 : Nat) ^ 18 ≤ 2 ^ 60 := by decide
    exact Nat.lt_of_lt_of_le h1 (Nat.le_trans h2 (Nat.pow_le_pow_right (by decide) (by decide)))
theorem e_strN {K : PySem.W.Frag} {ta : TE} {δ : En} {μ μ1 : Mp} {i : Int} (h : E1 ta δ μ (D K (.int i)) μ1) (hi : 0 ≤ i ∧ i < 10 ^ 18) : E1 (tCB rStrI (tCons ta tNil)) δ μ (D K (tD (TL.numL i.toNat))) μ1 := by
  have := e_strI h (log_18 hi)
  have e : Str.ofString (toString i) = S (TL.numL i.toNat) := by
    have := num_S i.toNat
    rw [Int.toNat_of_nonneg hi.1] at this
    exact this
  rw [e] at this
  exact this
theorem numL_18 {i : Int} (h : 0 ≤ i ∧ i < 10 ^ 18) : (TL.numL i.toNat).length ≤ 18 := TL.numL_len (by decide) (by omega)
theorem padL_len : ∀ (k m : Nat), (padL k m).length = k
  | 0, _ => rfl
  | k + 1, m => by
    show (padL k (m / 10) ++ [48 + m % 10]).length = k + 1
    rw [List.length_append, padL_len k]
    rfl
theorem big_num {n : Int} (h0 : 0 ≤ n) (h : 10 ^ 9 ≤ n) : TL.numL n.toNat = TL.numL (n / 1000000000).toNat ++ padL 9 (n % 1000000000).toNat := by
  have h1 := numL_pad 9 n.toNat (by omega)
  have e1 : (n / 1000000000).toNat = n.toNat / 10 ^ 9 := by omega
  have e2 : (n % 1000000000).toNat = n.toNat % 10 ^ 9 := by omega
  rw [e1, e2]
  exact h1
theorem sumL_le {B : Nat} : ∀ {xs : List Nat}, (∀ x ∈ xs, x ≤ B) → xs.sum ≤ xs.length * B
  | [], _ => Nat.zero_le _
  | x :: xs, h => by
    have h1 := h x (List.mem_cons_self ..)
    have h2 := sumL_le (xs := xs) fun y hy => h y (List.mem_cons_of_mem _ hy)
    rw [List.sum_cons, List.length_cons, Nat.succ_mul]
    omega
theorem join_ok {ls : List (List Nat)} {N B c : Nat} (hl : ls.length ≤ N) (hb : ∀ l ∈ ls, l.length ≤ B) (hN : N * (B + c) ≤ 16777216) : ((ls.map S).map (·.length)).sum + (ls.map S).length * c ≤ 16777216 := by
  rw [lens, List.length_map]
  have h1 := sumL_le (xs := ls.map (·.length)) (B := B) fun x hx => by
    obtain ⟨l, hl, rfl⟩ := List.mem_map.mp hx
    exact hb l hl
  rw [List.length_map] at h1
  have h2 : ls.length * (B + c) ≤ N * (B + c) := Nat.mul_le_mul_right _ hl
  rw [Nat.mul_add] at h2
  omega
/-- " ".join(..) of texts told by their code points -/
theorem e_joinS {K : PySem.W.Frag} {ta tb : TE} {δ : En} {μ μ1 μ2 : Mp} {P : Pr} {a : List Nat} {ls : List (List Nat)} {N B : Nat} (h1 : E1 ta δ μ (D K (tD a)) μ1) (h2 : E1 tb δ μ1 P μ2) (hl : LR K P μ2 (ls.map tD)) (hn : ls.length ≤ N) (hb : ∀ l ∈ ls, l.length ≤ B) (hN : N * (B + a.length) ≤ 16777216) : E1 (tM1 (rJoin K) ta tb) δ μ (D K (tD (TL.joinL a ls))) μ2 := by
  have := e_join (K := K) (s := S a) (ss := ls.map S) h1 h2 (by rw [List.map_map]; exact hl) (by rw [S_len]; exact join_ok hn hb hN)
  rw [join_S] at this
  exact this
theorem S_inj' {a b : List Nat} : S a = S b ↔ a = b := ⟨fun h => S_inj h, fun h => by rw [h]⟩
theorem deeds12B : (allDeeds 12 4).all (fun x => (Deed.args x).all (fun i => decide (0 ≤ i) && decide (i ≤ 12)) && ((dpL x).all (fun l => decide (l.length ≤ 10)) && decide ((dpL x).length ≤ 3))) = true := by decide +kernel
theorem dp_facts {x : Deed} (h : x ∈ allDeeds 12 4) : (∀ i ∈ Deed.args x, 0 ≤ i ∧ i ≤ 12) ∧ (∀ l ∈ dpL x, l.length ≤ 10) ∧ (dpL x).length ≤ 3 := by
  have := List.all_eq_true.mp deeds12B x h
  simp only [Bool.and_eq_true, List.all_eq_true, decide_eq_true_eq] at this
  exact ⟨this.1, this.2.1, this.2.2⟩
theorem dt_facts {x : Deed} (h : x ∈ allDeeds 12 4) : 44 ∉ dtL x ∧ (dtL x).length ≤ 12 := by
  have := List.all_eq_true.mp deeds12 x h
  simp only [Bool.and_eq_true, List.all_eq_true, decide_eq_true_eq] at this
  exact ⟨fun hm => this.1 44 hm rfl, this.2⟩
theorem dt_inj {x y : Deed} (hx : x ∈ allDeeds 12 4) (hy : y ∈ allDeeds 12 4) (h : dtL x = dtL y) : x = y := by
  have := List.all_eq_true.mp (List.all_eq_true.mp dtL_inj x hx) y hy
  rw [decide_eq_true h] at this
  simpa using this
theorem dp_strs (x : Deed) : (dpL x).map tD = [PyData.str x.word] ++ (Deed.args x).map fun i => tD (TL.numL i.toNat) := by
  unfold dpL
  rw [List.map_cons, List.map_map]
  show tD (TL.tl x.word) :: _ = _
  rw [show tD (TL.tl x.word) = .str x.word from congrArg PyData.str (S_tl x.word)]
  rfl
theorem fs_eq (a b : List Nat) : (((Str.empty ++ S a) ++ Str.ofString " ") ++ S b) = S (a ++ (32 :: b)) := by
  show (((S [] ++ S a) ++ S [32]) ++ S b) = _
  rw [S_cat, S_cat, S_cat, List.nil_append, List.append_assoc]
  rfl
theorem e_fsS {K : PySem.W.Frag} {ta tc : TE} {δ : En} {μ μ1 μ2 : Mp} {a b : List Nat} (h1 : E1 ta δ μ (D K (tD a)) μ1) (h3 : E1 tc δ μ1 (D K (tD b)) μ2) (ha : a.length ≤ 1000) (hb : b.length ≤ 1000) :
    E1 (fun σ H Q => tJs [tFmt ta, tC (.str " "), tFmt tc] Str.empty σ H fun out H1 => Q (.str out) H1) δ μ (D K (tD (a ++ (32 :: b)))) μ2 := by
  have z : 10000 ≤ sizeLine := by rw [sizeLine_eq]; decide
  have e0 : (Str.empty ++ S a) = S a := by
    show S [] ++ S a = _
    rw [S_cat, List.nil_append]
  have e1 : ((Str.empty ++ S a) ++ Str.ofString " ") = S (a ++ [32]) := by
    rw [e0]
    show S a ++ S [32] = _
    rw [S_cat]
  have := e_fs3 (K := K) h1 (e_cS (s := " ")) h3 (by rw [fs_eq, S_len, List.length_append, List.length_cons]; omega) (by rw [S_len]; omega) (by rw [e0, S_len]; omega) (by rw [e1, S_len, List.length_append]; show a.length + 1 ≤ _; omega) (by rw [S_len]; omega)
  rw [fs_eq] at this
  exact this
theorem joinL_flat (sep : List Nat) : ∀ (p : List Nat) (ps : List (List Nat)), TL.joinL sep (p :: ps) = p ++ ps.flatMap fun q => sep ++ q
  | p, [] => by simp [TL.joinL]
  | p, q :: r => by
    show p ++ (sep ++ TL.joinL sep (q :: r)) = _
    rw [joinL_flat sep q r, List.flatMap_cons, List.append_assoc]
theorem dtL_flat (x : Deed) : dtL x = TL.tl x.word ++ (Deed.args x).flatMap fun i => 32 :: TL.numL i.toNat := by
  unfold dtL dpL
  rw [joinL_flat, List.flatMap_map]
  rfl
theorem e_addT {K : PySem.W.Frag} {ta tb : TE} {δ : En} {μ μ1 μ2 : Mp} {a b : List Nat} (h1 : E1 ta δ μ (D K (tD a)) μ1) (h2 : E1 tb δ μ1 (D K (tD b)) μ2) (hl : a.length + b.length ≤ 10000) : E1 (tOp rAddS ta tb) δ μ (D K (tD (a ++ b))) μ2 := by
  have z : 10000 ≤ sizeLine := by rw [sizeLine_eq]; decide
  have := e_addS h1 h2 (by rw [S_len, S_len]; omega)
  rw [S_cat] at this
  exact this
end SY
set_option Elab.async false
set_option linter.all false
set_option maxRecDepth 100000
namespace SY
open PySem PySem.Spec L2 SX
theorem snoc_ind {P : List Nat → Prop} (h0 : P []) (hs : ∀ r c, P r → P (r ++ [c])) (l : List Nat) : P l := by
  rw [← List.reverse_reverse l]
  induction l.reverse with
  | nil => exact h0
  | cons c r ih =>
    rw [List.reverse_cons]
    exact hs _ c ih
def digC (c : Nat) : Bool := decide (48 ≤ c) && decide (c ≤ 57)
/-- a number as it is written -/
def numOk (l : List Nat) : Bool := l.all digC && (!l.isEmpty && !(decide (l.head? = some 48) && !decide (l = [48])))
def numVal (l : List Nat) : Int := l.foldl (fun (t : Int) (c : Nat) => t * 10 + ((c : Int) - 48)) 0
theorem dig_all {l : List Nat} (h : l.all digC = true) : NumText.AllDigits l := fun c hc => by
  have := List.all_eq_true.mp h c hc
  unfold digC at this
  simp only [Bool.and_eq_true, decide_eq_true_eq] at this
  exact this
theorem numVal_nat {l : List Nat} (h : l.all digC = true) : numVal l = ((NumText.digitsVal l : Nat) : Int) := TL.fold_digits l 0 (dig_all h)
theorem val_snoc (r : List Nat) (c : Nat) : NumText.digitsVal (r ++ [c]) = NumText.digitsVal r * 10 + (c - 48) := by
  unfold NumText.digitsVal
  rw [List.foldl_append]
  rfl
theorem val_pos (l : List Nat) : (∀ c ∈ l, 48 ≤ c ∧ c ≤ 57) → l ≠ [] → l.head? ≠ some 48 → 0 < NumText.digitsVal l := by
  refine snoc_ind (P := fun l => (∀ c ∈ l, 48 ≤ c ∧ c ≤ 57) → l ≠ [] → l.head? ≠ some 48 → 0 < NumText.digitsVal l) (fun _ h => absurd rfl h) (fun r c ih => ?_) l
  · intro hd _ hh
    rw [val_snoc]
    by_cases hr : r = []
    · subst hr
      have := hd c (by simp)
      have hc : c ≠ 48 := fun e => hh (by rw [e]; rfl)
      show 0 < NumText.digitsVal [] * 10 + (c - 48)
      omega
    · have h1 := ih (fun d hd' => hd d (List.mem_append_left _ hd')) hr (by
        cases r with
        | nil => exact absurd rfl hr
        | cons x r => exact hh)
      omega
theorem num_canon (l : List Nat) : (∀ c ∈ l, 48 ≤ c ∧ c ≤ 57) → l ≠ [] → (l.head? = some 48 → l = [48]) → TL.numL (NumText.digitsVal l) = l := by
  refine snoc_ind (P := fun l => (∀ c ∈ l, 48 ≤ c ∧ c ≤ 57) → l ≠ [] → (l.head? = some 48 → l = [48]) → TL.numL (NumText.digitsVal l) = l) (fun _ h => absurd rfl h) (fun r c ih => ?_) l
  · intro hd _ hh
    rw [val_snoc]
    have hc := hd c (by simp)
    by_cases hr : r = []
    · subst hr
      show TL.numL (NumText.digitsVal [] * 10 + (c - 48)) = [c]
      have : NumText.digitsVal [] * 10 + (c - 48) = c - 48 := by show 0 * 10 + _ = _; omega
      rw [this, TL.numL_lt (by omega)]
      congr 1
      omega
    · have hne : r.head? ≠ some 48 := fun e => by
        have : (r ++ [c]).head? = some 48 := by
          cases r with
          | nil => exact absurd rfl hr
          | cons x r => exact e
        have := hh this
        cases r with
        | nil => exact hr rfl
        | cons x r => simp at this
      have hd' : ∀ d ∈ r, 48 ≤ d ∧ d ≤ 57 := fun d h => hd d (List.mem_append_left _ h)
      have h1 := val_pos r hd' hr hne
      have h2 := ih hd' hr (fun e => absurd e hne)
      rw [TL.numL_step (by omega)]
      have e1 : (NumText.digitsVal r * 10 + (c - 48)) / 10 = NumText.digitsVal r := by omega
      have e2 : (NumText.digitsVal r * 10 + (c - 48)) % 10 = c - 48 := by omega
      rw [e1, e2, h2]
      congr 2
      omega
theorem numOk_parts {l : List Nat} (h : numOk l = true) : l.all digC = true ∧ l ≠ [] ∧ (l.head? = some 48 → l = [48]) := by
  unfold numOk at h
  simp only [Bool.and_eq_true, Bool.not_eq_true', Bool.and_eq_false_iff, Bool.not_eq_false', decide_eq_true_eq, decide_eq_false_iff_not] at h
  refine ⟨h.1, fun e => by rw [e] at h; exact absurd h.2.1 (by decide), fun e => ?_⟩
  rcases h.2.2 with h2 | h2
  · exact absurd e h2
  · exact h2
theorem numOk_L {l : List Nat} (h : numOk l = true) : TL.numL (numVal l).toNat = l ∧ 0 ≤ numVal l := by
  obtain ⟨h1, h2, h3⟩ := numOk_parts h
  rw [numVal_nat h1]
  exact ⟨num_canon l (fun c hc => dig_all h1 c hc) h2 h3, Int.natCast_nonneg _⟩
theorem pre_eq {s l : List Nat} (h : TL.pre s l = true) : l = s ++ l.drop s.length := by
  have e : l.take s.length = s := eq_of_beq h
  conv => lhs; rw [← List.take_append_drop s.length l, e]
theorem joinL_cons (sep p : List Nat) {ps : List (List Nat)} (h : ps ≠ []) : TL.joinL sep (p :: ps) = p ++ (sep ++ TL.joinL sep ps) := by
  cases ps with
  | nil => exact absurd rfl h
  | cons q r => rfl
theorem spl_ne (sep : List Nat) : ∀ (l acc : List Nat), TL.spl sep 0 acc l ≠ []
  | [], acc => by rw [TL.spl_nil]; simp
  | c :: r, acc => by
    cases h : TL.pre sep (c :: r) with
    | true => rw [TL.spl_hit h]; simp
    | false => rw [TL.spl_miss h]; exact spl_ne sep r _
theorem joinL_spl {sep : List Nat} (hs : sep ≠ []) : ∀ (n : Nat) (l acc : List Nat), l.length ≤ n → TL.joinL sep (TL.spl sep 0 acc l) = acc ++ l
  | _, [], acc, _ => by rw [TL.spl_nil]; simp [TL.joinL]
  | 0, c :: r, acc, h => by simp at h
  | n + 1, c :: r, acc, h => by
    cases hp : TL.pre sep (c :: r) with
    | true =>
      rw [TL.spl_hit hp, TL.spl_pass, joinL_cons sep acc (spl_ne sep _ _), joinL_spl hs n _ [] (by simp at h ⊢; omega), List.nil_append]
      congr 1
      have := pre_eq hp
      cases sep with
      | nil => exact absurd rfl hs
      | cons s sep =>
        conv => rhs; rw [this]
        rfl
    | false =>
      rw [TL.spl_miss hp, joinL_spl hs n r _ (by simp at h; omega), List.append_assoc]
      rfl
theorem par_eq {sep : List Nat} : ∀ (l acc : List Nat) {p q : List Nat}, TL.par sep acc l = some (p, q) → acc ++ l = p ++ (sep ++ q)
  | [], acc, p, q, h => by cases h
  | c :: r, acc, p, q, h => by
    cases hp : TL.pre sep (c :: r) with
    | true =>
      rw [TL.par_hit hp] at h
      cases h
      rw [← pre_eq hp]
    | false =>
      rw [TL.par_miss hp] at h
      have := par_eq r _ h
      rw [List.append_assoc] at this
      exact this
def deedOf (t : List Nat) : Option Deed := (allDeeds 12 4).find? fun x => decide (dtL x = t)
theorem deedOf_some {t : List Nat} {x : Deed} (h : deedOf t = some x) : x ∈ allDeeds 12 4 ∧ dtL x = t := by
  have h1 := List.mem_of_find?_eq_some h
  have h2 := List.find?_some h
  exact ⟨h1, of_decide_eq_true h2⟩
theorem deedOf_none {t : List Nat} (h : deedOf t = none) : ∀ x ∈ allDeeds 12 4, dtL x ≠ t := fun x hx e => by
  have := List.find?_eq_none.mp h x hx
  exact this (decide_eq_true e)
theorem deedOf_at {t : List Nat} {x : Deed} (hx : x ∈ allDeeds 12 4) (h : dtL x = t) : deedOf t = some x := by
  cases hq : deedOf t with
  | none => exact absurd h (deedOf_none hq x hx)
  | some y =>
    obtain ⟨h1, h2⟩ := deedOf_some hq
    rw [dt_inj hx h1 (h.trans h2.symm)]
theorem deedOf_nil : deedOf [] = none := by decide +kernel
def cutI (l : List Nat) : List Nat × List Nat × List Nat := match TL.par [32] [] l with
  | some (p, q) => (p, [32], q)
  | none => (l, [], [])
theorem part_any (l : List Nat) : Txt.partition (S l) (Str.ofString " ") = (S (cutI l).1, S (cutI l).2.1, S (cutI l).2.2) := by
  show Txt.partition (S l) (S [32]) = _
  unfold cutI
  cases h : TL.par [32] [] l with
  | none => exact SX.partition_none (by decide) h
  | some pq =>
    obtain ⟨p, q⟩ := pq
    exact SX.partition_some (by decide) h
def itemP (low : Int) (l : List Nat) : Option (Int × Deed) := if numOk (cutI l).1 = true ∧ low ≤ numVal (cutI l).1 then (deedOf (cutI l).2.2).map fun x => (numVal (cutI l).1, x) else none
def itemsP : Int → List (List Nat) → Option (List (Int × Deed))
  | _, [] => some []
  | low, l :: ls => (itemP low l).bind fun s => (itemsP (s.1 + 1) ls).map fun r => s :: r
def slipsP (a : List Nat) : Option (List (Int × Deed)) := if a = [45] then some [] else itemsP 0 (TL.spl [44, 32] 0 [] a)
theorem itemP_back {low : Int} {l : List Nat} {s : Int × Deed} (h : itemP low l = some s) : slL s = l ∧ low ≤ s.1 ∧ 0 ≤ s.1 ∧ s.2 ∈ allDeeds 12 4 ∧ TL.numL s.1.toNat = (cutI l).1 := by
  unfold itemP at h
  split at h
  · rename_i hg
    obtain ⟨x, hx, rfl⟩ := Option.map_eq_some_iff.mp h
    obtain ⟨h1, h2⟩ := deedOf_some hx
    obtain ⟨h3, h4⟩ := numOk_L hg.1
    refine ⟨?_, hg.2, h4, h1, h3⟩
    show TL.numL (numVal (cutI l).1).toNat ++ (32 :: dtL x) = l
    rw [h3, h2]
    unfold cutI at hx ⊢
    cases hp : TL.par [32] [] l with
    | none =>
      rw [hp] at hx
      have hx : deedOf [] = some x := hx
      rw [deedOf_nil] at hx
      cases hx
    | some pq =>
      obtain ⟨p, q⟩ := pq
      exact (par_eq l [] hp).symm
  · cases h
theorem itemsP_back : ∀ {ls : List (List Nat)} {low : Int} {sl : List (Int × Deed)}, itemsP low ls = some sl → sl.map slL = ls ∧ ∀ s ∈ sl, 0 ≤ s.1 ∧ s.2 ∈ allDeeds 12 4
  | [], _, sl, h => by
    cases h
    exact ⟨rfl, fun _ h => by cases h⟩
  | l :: ls, low, sl, h => by
    obtain ⟨s, hs, h⟩ := Option.bind_eq_some_iff.mp (show (itemP low l).bind _ = some sl from h)
    obtain ⟨r, hr, rfl⟩ := Option.map_eq_some_iff.mp h
    obtain ⟨h1, h2, h3, h4, _⟩ := itemP_back hs
    obtain ⟨h5, h6⟩ := itemsP_back hr
    refine ⟨by rw [List.map_cons, h1, h5], fun t ht => ?_⟩
    rcases List.mem_cons.mp ht with rfl | ht
    · exact ⟨h3, h4⟩
    · exact h6 t ht
theorem slipsP_back {a : List Nat} {sl : List (Int × Deed)} (h : slipsP a = some sl) : slsL sl = a ∧ ∀ s ∈ sl, 0 ≤ s.1 ∧ s.2 ∈ allDeeds 12 4 := by
  unfold slipsP at h
  split at h
  · rename_i e
    cases h
    exact ⟨e.symm, fun _ h => by cases h⟩
  · obtain ⟨h1, h2⟩ := itemsP_back h
    refine ⟨?_, h2⟩
    have hn : sl ≠ [] := fun e => by
      rw [e] at h1
      exact spl_ne [44, 32] a [] h1.symm
    unfold slsL
    rw [if_neg hn, h1, joinL_spl (by decide) a.length a [] (Nat.le_refl _)]
    rfl
abbrev cD (l : List Nat) : Nat := l.countP digC
theorem cD_app (a b : List Nat) : cD (a ++ b) = cD a + cD b := List.countP_append ..
theorem cD_join {sep : List Nat} : ∀ {ps : List (List Nat)} {p : List Nat}, p ∈ ps → cD p ≤ cD (TL.joinL sep ps)
  | [], _, h => by cases h
  | [q], p, h => by
    obtain rfl := List.mem_singleton.mp h
    exact Nat.le_refl _
  | q :: r :: ps, p, h => by
    show cD p ≤ cD (q ++ (sep ++ TL.joinL sep (r :: ps)))
    rw [cD_app, cD_app]
    rcases List.mem_cons.mp h with rfl | h
    · omega
    · have := cD_join (sep := sep) h
      omega
theorem cD_part {a p : List Nat} (h : p ∈ TL.spl [44, 32] 0 [] a) : cD p ≤ cD a := by
  have := cD_join (sep := [44, 32]) h
  rw [joinL_spl (by decide) a.length a [] (Nat.le_refl _), List.nil_append] at this
  exact this
theorem cutI_eq (l : List Nat) : l = (cutI l).1 ++ ((cutI l).2.1 ++ (cutI l).2.2) := by
  unfold cutI
  cases hp : TL.par [32] [] l with
  | none => simp
  | some pq =>
    obtain ⟨p, q⟩ := pq
    exact par_eq l [] hp
theorem cD_cut (l : List Nat) : cD (cutI l).1 ≤ cD l := by
  conv => rhs; rw [cutI_eq l, cD_app]
  omega
theorem cD_all {l : List Nat} (h : l.all digC = true) : cD l = l.length := by
  rw [cD, List.countP_eq_length]
  exact fun c hc => List.all_eq_true.mp h c hc
theorem joinL_nil : ∀ xs : List (List Nat), TL.joinL [] xs = xs.flatten
  | [] => rfl
  | [p] => by simp [TL.joinL]
  | p :: q :: r => by
    show p ++ ([] ++ TL.joinL [] (q :: r)) = _
    rw [joinL_nil (q :: r), List.nil_append, List.flatten_cons]
    simp
theorem len_part {a p : List Nat} (h : p ∈ TL.spl [44, 32] 0 [] a) : p.length ≤ a.length := by
  have hj : ∀ {ps : List (List Nat)} {p : List Nat}, p ∈ ps → p.length ≤ (TL.joinL [44, 32] ps).length := fun {ps} => by
    induction ps with
    | nil => exact fun h => by cases h
    | cons q ps ih =>
      intro p h
      by_cases he : ps = []
      · subst he
        obtain rfl := List.mem_singleton.mp h
        exact Nat.le_refl _
      · rw [joinL_cons _ _ he, List.length_append, List.length_append]
        rcases List.mem_cons.mp h with rfl | h
        · omega
        · have := ih h
          omega
  have := hj h
  rw [joinL_spl (by decide) a.length a [] (Nat.le_refl _), List.nil_append] at this
  exact this
theorem count_parts {a : List Nat} : (TL.spl [44, 32] 0 [] a).length ≤ a.length + 1 := by
  have hj : ∀ {ps : List (List Nat)}, ps.length ≤ (TL.joinL [44, 32] ps).length + 1 := fun {ps} => by
    induction ps with
    | nil => exact Nat.zero_le _
    | cons q ps ih =>
      by_cases he : ps = []
      · subst he
        show 1 ≤ _
        omega
      · rw [joinL_cons _ _ he, List.length_append, List.length_append, List.length_cons]
        show _ ≤ q.length + (2 + _) + 1
        omega
  have := hj (ps := TL.spl [44, 32] 0 [] a)
  rw [joinL_spl (by decide) a.length a [] (Nat.le_refl _), List.nil_append] at this
  exact this
def txtP : PyData → Option (List (Int × Deed))
  | .str s => slipsP (TL.tl s)
  | _ => none
def TxOk (d : PyData) : Prop := ∀ s, d = .str s → (TL.tl s).length ≤ 3000
abbrev rsR (K : PySem.W.Frag) (d : PyData) (Q : Pr) (μ : Mp) : Prop := ∃ sl, txtP d = some sl ∧ Q = D K (.list (sl.map slipD)) ∧ μ = []
abbrev rsX (c : Addr) (d : PyData) : EXY := fun cl dd μ => txtP d = none ∧ cl = .ref c ∧ dd = none ∧ μ = []
theorem split_any (a : List Nat) : Txt.split (S a) (Str.ofString ", ") = (TL.spl [44, 32] 0 [] a).map S := by
  show Txt.split _ (S [44, 32]) = _
  exact split_S (by decide) (by decide)
theorem itemP_none {low : Int} {l : List Nat} (h : numOk (cutI l).1 = false ∨ numVal (cutI l).1 < low ∨ deedOf (cutI l).2.2 = none) : itemP low l = none := by
  unfold itemP
  split
  · rename_i hg
    rcases h with h | h | h
    · rw [h] at hg
      cases hg.1
    · omega
    · rw [h]
      rfl
  · rfl
theorem itemP_some {low : Int} {l : List Nat} {x : Deed} (h1 : numOk (cutI l).1 = true) (h2 : low ≤ numVal (cutI l).1) (h3 : deedOf (cutI l).2.2 = some x) : itemP low l = some (numVal (cutI l).1, x) := by
  unfold itemP
  rw [if_pos ⟨h1, h2⟩, h3]
  rfl
abbrev rInS : R2 := fun x y H Q => ∃ i j, x = V.str i ∧ y = V.str j ∧ Q (.bl (!(Builtin.Str.occurrences j i 0 j.length 1).isEmpty)) H
abbrev rIntS : List V → Hp → VK → Prop := fun xs H Q => ∃ a n, xs = [V.str a] ∧ PySem.intText? a = some n ∧ a.length ≤ 640 ∧ Q (.int n) H
abbrev rUpper : V → List V → Hp → VK → Prop := fun x xs H Q => ∃ a, x = .str a ∧ xs = [] ∧ a.length ≤ 5592405 ∧ Q (.str (Txt.upper a)) H
theorem k_ninSq {X : Cx} {K : PySem.W.Frag} (hK : X.K = K) : OpR X (compareOp .NotIn) (rIn K true) := hK ▸ op_notIn_seq
section
variable {K : PySem.W.Frag} {te ta tb : TE} {δ : En} {μ μ1 μ2 : Mp} {P : Pr} {l : List Nat} {ls : List (List Nat)} {c : Nat}
theorem e_inS (h1 : E1 ta δ μ (D K (tD [c])) μ1) (h2 : E1 tb δ μ1 (D K (tD l)) μ2) : E1 (tOp rInS ta tb) δ μ (D K (.bool (decide (c ∈ l)))) μ2 :=
  e_op h1 h2 fun G H F M x y mm0 mm p1 p2 Q q => by
    rw [dp_str p1, dp_str p2]
    refine ⟨_, _, rfl, rfl, ?_⟩
    have e : (!(Builtin.Str.occurrences (S l) (S [c]) 0 (S l).length 1).isEmpty) = decide (c ∈ l) := in_one l c
    rw [e]
    exact q _ G M H (Ex.refl _) mm0 (.bl _) mm
theorem e_intS (h : E1 ta δ μ (D K (tD l)) μ1) (hd : l.all digC = true) (hn : l ≠ []) (hl : l.length ≤ 640) : E1 (tCB rIntS (tCons ta tNil)) δ μ (D K (.int (numVal l))) μ1 :=
  e_CB1 h fun G H F M v m mm p Q q => by
    rw [dp_str p]
    refine ⟨S l, numVal l, rfl, ?_, by rw [S_len]; exact hl, q _ G M H (Ex.refl _) m (.int _) mm⟩
    rw [numVal_nat hd]
    exact int_S hd hn (by omega)
theorem e_slS {tl th : TO} {lo hi : Option Int} (h : E1 te δ μ (D K (tD l)) μ1) (hl : OY tl δ μ1 lo) (hh : OY th δ μ1 hi) (hz : l.length ≤ 1000000) : E1 (tSl rSlS te tl th) δ μ (D K (tD (cutG l lo hi))) μ1 := fun σ G M s m G1 H F e m1 Q q =>
  h σ G M s m G1 H F e m1 _ fun x G2 M2 H2 e2 m2 r2 => hl σ G2 M2 (s.mono (e.trans e2)) r2.2 G2 H2 F (Ex.refl _) m2 _ fun G3 M3 H3 e3 m3 r3 => hh σ G3 M3 (s.mono ((e.trans e2).trans e3)) r3 G3 H3 F (Ex.refl _) m3 _ fun G4 M4 H4 e4 m4 r4 => by
    have hv := dp_str r2.1
    subst hv
    refine ⟨S l, rfl, by rw [S_len, sizeLine_eq]; omega, ?_⟩
    have e : cutS (S l) lo hi = S (cutG l lo hi) := by
      unfold cutS cutG
      rw [S_len]
    rw [e]
    exact q _ G4 M4 H4 ((e2.trans e3).trans e4) m4 ⟨.str _, r4⟩
theorem e_upper (h : E1 ta δ μ (D K (tD l)) μ1) (h128 : l.all (· < 128) = true) (hz : l.length ≤ 1000000) : E1 (tM0 rUpper ta) δ μ (D K (tD (l.map PyProof.Rows.up1))) μ1 := fun σ G M sl m G1 H F e m1 Q q =>
  h σ G M sl m G1 H F e m1 _ fun v G2 M2 H2 e2 m2 r2 => by
    have hv := dp_str r2.1
    subst hv
    refine ⟨⟨_, rfl⟩, S l, rfl, rfl, by rw [S_len]; omega, ?_⟩
    rw [upper_S h128]
    exact q _ G2 M2 H2 e2 m2 ⟨.str _, r2.2⟩
theorem e_notinL (h1 : E1 ta δ μ (D K (tD l)) μ1) (h2 : E1 tb δ μ1 (D K (.list (ls.map tD))) μ2) : E1 (tOp (rIn K true) ta tb) δ μ (D K (.bool (!decide (l ∈ ls)))) μ2 :=
  e_op h1 h2 fun G H F M x y m mm p1 p2 Q q => by
    obtain rfl := dp_str p1
    obtain ⟨a, xs, rfl, h3, h4⟩ := dp_lst p2
    have h4 : DpAll K G xs ((ls.map S).map .str) := by rw [List.map_map]; exact h4
    rw [dpa_str h4] at h3
    have e : inV (.str (S l)) ((ls.map S).map V.str) = decide (l ∈ ls) := by
      rw [in_strs, decide_eq_decide]
      constructor
      · intro h
        obtain ⟨m, hm, e⟩ := List.mem_map.mp h
        rw [← S_inj e]
        exact hm
      · exact fun h => List.mem_map.mpr ⟨l, h, rfl⟩
    exact ⟨a, _, rfl, .inl (ex_l m.ex h3), rfl, flat_strs _, q _ G M H (Ex.refl _) m (show Dp K G (.bl (if true = true then !inV (.str (S l)) ((ls.map S).map V.str) else inV (.str (S l)) ((ls.map S).map V.str))) _ from by rw [if_pos rfl, e]; exact .bl _) mm⟩
end
theorem cutG_sub {α : Type} (l : List α) (lo hi : Option Int) : (cutG l lo hi).Sublist l := (List.take_sublist _ _).trans (List.drop_sublist _ _)
def textsN : Nat → List (List Nat)
  | 0 => ["forget", "again", "swap", "out", "twice"].map (fun s => TL.tl (Str.ofString s)) ++ (List.range 11).map fun d => TL.tl (Str.ofString "off ") ++ TL.numL (d + 1)
  | j + 1 => textsN j ++ ([TL.tl (Str.ofString "copy ") ++ TL.numL j] ++ (List.range 11).map fun d => (TL.tl (Str.ofString "read ") ++ TL.numL j) ++ [32] ++ TL.numL (d + 1))
theorem texts_ok : (((textsN 4).all fun t => (deedOf t).isSome) && ((allDeeds 12 4).all fun x => decide (dtL x ∈ textsN 4))) = true := by decide +kernel
theorem texts_mem (t : List Nat) : decide (t ∈ textsN 4) = (deedOf t).isSome := by
  have h := texts_ok
  rw [Bool.and_eq_true, List.all_eq_true, List.all_eq_true] at h
  cases hq : deedOf t with
  | none =>
    rw [decide_eq_false]
    · rfl
    · intro hm
      have := h.1 t hm
      rw [hq] at this
      cases this
  | some x =>
    obtain ⟨h1, h2⟩ := deedOf_some hq
    have := h.2 x h1
    rw [h2] at this
    rw [this]
    rfl
structure OkT (N L : Nat) (l : List Nat) : Prop where
  len : l.length ≤ L
  dig : cD l ≤ N
  asc : l.all (· < 128) = true
theorem OkT.sub {N L : Nat} {l m : List Nat} (g : OkT N L l) (h : m.Sublist l) : OkT N L m :=
  ⟨Nat.le_trans h.length_le g.len, Nat.le_trans (h.countP_le ..) g.dig, List.all_eq_true.mpr fun c hc => List.all_eq_true.mp g.asc c (h.subset hc)⟩
theorem OkT.app {N L N2 L2 : Nat} {l m : List Nat} (g : OkT N L l) (h : OkT N2 L2 m) : OkT (N + N2) (L + L2) (l ++ m) :=
  ⟨by rw [List.length_append]; have := g.len; have := h.len; omega, by rw [cD_app]; have := g.dig; have := h.dig; omega, by rw [List.all_append, g.asc, h.asc]; rfl⟩
theorem OkT.mono {N L N2 L2 : Nat} {l : List Nat} (g : OkT N L l) (h1 : N ≤ N2) (h2 : L ≤ L2) : OkT N2 L2 l := ⟨Nat.le_trans g.len h2, Nat.le_trans g.dig h1, g.asc⟩
theorem OkT.one {c : Nat} (h : c < 128) : OkT 1 1 [c] := ⟨Nat.le_refl _, by rw [cD]; exact List.countP_le_length, by simpa using h⟩
theorem up_dig : ∀ c : Fin 128, digC (PyProof.Rows.up1 c.val) = digC c.val ∧ PyProof.Rows.up1 c.val < 128 := by decide +kernel
theorem OkT.up {N L : Nat} {l : List Nat} (g : OkT N L l) : OkT N L (l.map PyProof.Rows.up1) := by
  have hc : ∀ c ∈ l, c < 128 := fun c hc => of_decide_eq_true (List.all_eq_true.mp g.asc c hc)
  refine ⟨by rw [List.length_map]; exact g.len, ?_, ?_⟩
  · have : cD (l.map PyProof.Rows.up1) = cD l := by
      rw [cD, List.countP_map]
      refine List.countP_congr fun c h => ?_
      have := (up_dig ⟨c, hc c h⟩).1
      show digC (PyProof.Rows.up1 c) = true ↔ digC c = true
      rw [this]
    rw [this]
    exact g.dig
  · rw [List.all_eq_true]
    intro d hd
    obtain ⟨c, h, rfl⟩ := List.mem_map.mp hd
    exact decide_eq_true (up_dig ⟨c, hc c h⟩).2
def OkV (d : PyData) : Prop := ∀ s, d = .str s → (TL.tl s).length ≤ 3000 ∧ cD (TL.tl s) ≤ 640
theorem e_cT {K : PySem.W.Frag} {δ : En} {μ : Mp} {s : Str} : E1 (tC (.str s)) δ μ (D K (tD (TL.tl s))) μ := by
  have e : tD (TL.tl s) = .str s := congrArg PyData.str (S_tl s)
  rw [e]
  exact e_cS
end SY
set_option maxRecDepth 100000
set_option maxHeartbeats 4000000
namespace LW
open PySem L2 SX SY
local macro_rules | `(tactic| walk_at "ex") => `(tactic| first | exact Ex.refl _ | assumption | (refine Ex.trans ?_ (by assumption); walk_at "ex"))
local macro_rules | `(tactic| walk_at "dp") => `(tactic| first | assumption | exact ints_dpAll _ | (refine dm (by assumption) ?_; walk_at "ex") | (refine dma (by assumption) ?_; walk_at "ex"))
local macro_rules | `(tactic| walk_at "da") => `(tactic| first | assumption | (refine Da.of ?_; walk_at "dp") | (refine Da.ex (by assumption) ?_; walk_at "ex"))
local macro_rules | `(tactic| walk_at "at") => `(tactic| first | assumption | (refine At.ex (by assumption) ?_; walk_at "ex") | (refine AtL.ex (by assumption) ?_; walk_at "ex"))
local macro_rules | `(tactic| walk_at "sd") => `(tactic| first | assumption | rfl | decide | omega)
local macro_rules | `(tactic| walk_at "ln") => `(tactic| first | (simp only [List.length_cons, List.length_nil, List.length_map, List.length_append, List.length_replicate]; omega) | decide | (simp; done) | (simp; omega))
local macro_rules | `(tactic| walk_at "sd") => `(tactic| first | assumption | exact cdiv_small (by omega) (by omega) | omega | decide | rfl | (constructor <;> omega) | exact .inr ⟨by omega, by omega⟩ | exact .inl ⟨by omega, by omega⟩ | (refine ⟨?_, ?_⟩ <;> (simp only [List.length_map, List.length_range] at *; omega)) | (simp only [List.length_map, List.length_append, List.length_cons, List.length_nil, List.length_range] at *; omega) | exact ⟨by omega, by decide⟩)
local macro_rules | `(tactic| walk_at "sh") => `(tactic| first | assumption | exact shd_slips _ | exact shd_deeds _ | exact (sh_ints (n := 0) _).ok | exact (sh_col (n := 0) _).ok | exact (sh_cols (n := 0) _).ok | exact (sh_deed (n := 0) _).ok | exact (sh_slip (n := 0) _).ok | exact (sh_int (n := 0) _).ok | exact (sh_non (n := 0)).ok | decide | rfl)
local macro_rules | `(tactic| walk_at "qv") => `(tactic| first | assumption | (with_reducible refine eqv_same ?_; walk_at "sh") | exact eqv_lst _ _ | exact eqv_col _ _ | exact eqv_cols _ _ | rfl)
local macro_rules | `(tactic| walk_at "lr") => `(tactic| first | exact lr_D | exact lr_H | exact lr_O 0 rfl | exact lr_O 1 rfl | exact lr_O 2 rfl | exact lr_O 3 rfl | exact lr_O 4 rfl | with_reducible assumption | (refine lr_cons ?_; walk_at "lr"))
local macro_rules | `(tactic| walk_at "dr") => `(tactic| first | exact dr_D | ((with_reducible apply dr_L); walk_at "lr"))
local macro_rules | `(tactic| walk_at "hyp") => `(tactic| (intro hh; (try simp only [decide_eq_true_eq, decide_eq_false_iff_not, Bool.not_eq_true', Bool.not_eq_false', Bool.and_eq_true, Bool.or_eq_false_iff] at hh)))
local macro_rules | `(tactic| walk_at "ev") => `(tactic| first
  | with_reducible assumption
  | ((with_reducible apply e_var); rfl)
  | with_reducible exact e_cI (K := $(Lean.mkIdent `K))
  | with_reducible exact e_cS (K := $(Lean.mkIdent `K))
  | with_reducible exact e_cN (K := $(Lean.mkIdent `K))
  | with_reducible exact e_cB (K := $(Lean.mkIdent `K))
  | ((with_reducible apply e_cst); (· (intro; first | exact Dp.non | exact Dp.int _ | exact Dp.str _ | exact Dp.bl _)))
  | ((with_reducible apply e_ixS0 (K := $(Lean.mkIdent `K))); (· walk_at "ev"))
  | ((with_reducible apply e_ixS1 (K := $(Lean.mkIdent `K))); (· walk_at "ev"))
  | ((with_reducible apply e_word (K := $(Lean.mkIdent `K))); (· walk_at "ev"))
  | walk_at "call"
  | walk_at "ev2")
local macro_rules | `(tactic| walk_at "ev2") => `(tactic| first
  | ((with_reducible apply e_add (K := $(Lean.mkIdent `K))); (· walk_at "ev"); (· walk_at "ev"))
  | ((with_reducible apply e_sub (K := $(Lean.mkIdent `K))); (· walk_at "ev"); (· walk_at "ev"))
  | ((with_reducible apply e_mul (K := $(Lean.mkIdent `K))); (· walk_at "ev"); (· walk_at "ev"); (· walk_at "sd"))
  | ((with_reducible apply e_mod (K := $(Lean.mkIdent `K))); (· walk_at "ev"); (· walk_at "ev"); (· walk_at "sd"))
  | ((with_reducible apply e_div (K := $(Lean.mkIdent `K))); (· walk_at "ev"); (· walk_at "ev"); (· walk_at "sd"))
  | ((with_reducible apply e_pow (K := $(Lean.mkIdent `K))); (· walk_at "ev"); (· walk_at "ev"); (· walk_at "sd"))
  | ((with_reducible apply e_lt (K := $(Lean.mkIdent `K))); (· walk_at "ev"); (· walk_at "ev"))
  | ((with_reducible apply e_le (K := $(Lean.mkIdent `K))); (· walk_at "ev"); (· walk_at "ev"))
  | ((with_reducible apply e_gt (K := $(Lean.mkIdent `K))); (· walk_at "ev"); (· walk_at "ev"))
  | ((with_reducible apply e_ge (K := $(Lean.mkIdent `K))); (· walk_at "ev"); (· walk_at "ev"))
  | ((with_reducible apply e_eqI (K := $(Lean.mkIdent `K))); (· walk_at "ev"); (· walk_at "ev"))
  | ((with_reducible apply e_eqS (K := $(Lean.mkIdent `K))); (· walk_at "ev"); (· walk_at "ev"))
  | ((with_reducible apply e_neI (K := $(Lean.mkIdent `K))); (· walk_at "ev"); (· walk_at "ev"))
  | ((with_reducible apply e_neS (K := $(Lean.mkIdent `K))); (· walk_at "ev"); (· walk_at "ev"))
  | ((with_reducible apply e_eqNS (K := $(Lean.mkIdent `K))); (· walk_at "ev"); (· walk_at "ev"))
  | ((with_reducible apply e_eqIS (K := $(Lean.mkIdent `K))); (· walk_at "ev"); (· walk_at "ev"))
  | ((with_reducible apply e_eqB (K := $(Lean.mkIdent `K))); (· walk_at "ev"); (· walk_at "ev"))
  | ((with_reducible apply e_eqNil (K := $(Lean.mkIdent `K))); (· walk_at "ev"); (· walk_at "lr"); (· walk_at "sh"))
  | ((with_reducible apply e_neNil (K := $(Lean.mkIdent `K))); (· walk_at "ev"); (· walk_at "lr"); (· walk_at "sh"))
  | ((with_reducible apply e_eqD (K := $(Lean.mkIdent `K))); (· walk_at "ev"); (· walk_at "ev"); (· walk_at "dr"); (· walk_at "dr"); (· walk_at "sh"); (· walk_at "sh"); (· walk_at "qv"))
  | ((with_reducible apply e_neD (K := $(Lean.mkIdent `K))); (· walk_at "ev"); (· walk_at "ev"); (· walk_at "dr"); (· walk_at "dr"); (· walk_at "sh"); (· walk_at "sh"); (· walk_at "qv"))
  | ((with_reducible apply e_inD (K := $(Lean.mkIdent `K))); (· walk_at "ev"); (· walk_at "ev"); (· walk_at "dr"); (· walk_at "dr"); (· walk_at "sh"); (· walk_at "sh"); (· walk_at "qv"))
  | ((with_reducible apply e_ninD (K := $(Lean.mkIdent `K))); (· walk_at "ev"); (· walk_at "ev"); (· walk_at "dr"); (· walk_at "dr"); (· walk_at "sh"); (· walk_at "sh"); (· walk_at "qv"))
  | ((with_reducible apply e_neg (K := $(Lean.mkIdent `K))); (· walk_at "ev"))
  | ((with_reducible apply e_isN (K := $(Lean.mkIdent `K))); (· walk_at "ev"))
  | ((with_reducible apply e_notN (K := $(Lean.mkIdent `K))); (· walk_at "ev"))
  | walk_at "ev3")
local macro_rules | `(tactic| walk_at "ev3") => `(tactic| first
  | ((with_reducible apply e_and (K := $(Lean.mkIdent `K))); (· walk_at "ev"); (· walk_at "hyp"; walk_at "ev"))
  | ((with_reducible apply e_or (K := $(Lean.mkIdent `K))); (· walk_at "ev"); (· walk_at "hyp"; walk_at "ev"))
  | ((with_reducible apply e_not (K := $(Lean.mkIdent `K))); (· walk_at "ev"))
  | ((with_reducible apply e_ifTr); (· walk_at "tv"); (· rfl); (· walk_at "ev"))
  | ((with_reducible apply e_ifFa); (· walk_at "tv"); (· rfl); (· walk_at "ev"))
  | ((with_reducible apply e_ifI (K := $(Lean.mkIdent `K))); (· walk_at "tv"); (· walk_at "hyp"; walk_at "ev"); (· walk_at "hyp"; walk_at "ev"))
  | ((with_reducible apply e_ifD (K := $(Lean.mkIdent `K))); (· walk_at "tv"); (· walk_at "hyp"; walk_at "ev"); (· walk_at "hyp"; walk_at "ev"))
  | ((with_reducible apply e_chLeLe (K := $(Lean.mkIdent `K))); (· walk_at "ev"); (· walk_at "ev"); (· walk_at "ev"))
  | ((with_reducible apply e_chLeLt (K := $(Lean.mkIdent `K))); (· walk_at "ev"); (· walk_at "ev"); (· walk_at "ev"))
  | ((with_reducible apply e_ixT (K := $(Lean.mkIdent `K))); (· walk_at "ev"); (· walk_at "ev"); (· rfl))
  | ((with_reducible apply e_ixCI (K := $(Lean.mkIdent `K))); (· walk_at "ev"); (· walk_at "ev"); (· walk_at "sd"))
  | ((with_reducible apply e_ixTI (K := $(Lean.mkIdent `K))); (· walk_at "ev"); (· walk_at "ev"); (· walk_at "sd"))
  | ((with_reducible apply e_ixTp (K := $(Lean.mkIdent `K))); (· walk_at "ev"); (· walk_at "ev"); (· rfl))
  | ((with_reducible apply e_ixL (K := $(Lean.mkIdent `K))); (· walk_at "ev"); (· walk_at "ev"); (· walk_at "lr"); (· rfl))
  | ((with_reducible apply e_ixLI (K := $(Lean.mkIdent `K))); (· walk_at "ev"); (· walk_at "ev"); (· walk_at "lr"); (· walk_at "sd"))
  | ((with_reducible apply e_ixLC (K := $(Lean.mkIdent `K))); (· walk_at "ev"); (· walk_at "ev"); (· walk_at "lr"); (· walk_at "sd"))
  | ((with_reducible apply e_ixLD (K := $(Lean.mkIdent `K))); (· walk_at "ev"); (· walk_at "ev"); (· walk_at "lr"); (· walk_at "sd"))
  | ((with_reducible apply e_ixLp (K := $(Lean.mkIdent `K))); (· walk_at "ev"); (· walk_at "ev"); (· rfl))
  | ((with_reducible apply e_tup (K := $(Lean.mkIdent `K))); (· walk_at "ed"); (· walk_at "ln"))
  | ((with_reducible apply e_isi (K := $(Lean.mkIdent `K))); (· walk_at "ev"); (· (first | exact .inl rfl | exact .inr (.inl rfl) | exact .inr (.inr (.inl rfl)) | exact .inr (.inr (.inr (.inl rfl))) | exact .inr (.inr (.inr (.inr rfl))))))
  | ((with_reducible apply e_len (K := $(Lean.mkIdent `K))); (· walk_at "ev"); (· walk_at "lr"))
  | ((with_reducible apply e_lenT (K := $(Lean.mkIdent `K))); (· walk_at "ev"))
  | ((with_reducible apply e_tupL (K := $(Lean.mkIdent `K))); (· walk_at "ev"); (· walk_at "lr"))
  | ((with_reducible apply e_tupT (K := $(Lean.mkIdent `K))); (· walk_at "ev"))
  | ((with_reducible apply e_int (K := $(Lean.mkIdent `K))); (· walk_at "ev"))
  | ((with_reducible apply e_intB (K := $(Lean.mkIdent `K))); (· walk_at "ev"))
  | ((with_reducible apply e_allO (K := $(Lean.mkIdent `K))); (· walk_at "eo"))
  | ((with_reducible apply e_anyO (K := $(Lean.mkIdent `K))); (· walk_at "eo"))
  | ((with_reducible apply e_sumO (K := $(Lean.mkIdent `K))); (· walk_at "eo"))
  | ((with_reducible apply e_sum (K := $(Lean.mkIdent `K))); (· walk_at "ev"); (· walk_at "lr"))
  | ((with_reducible apply e_sumC (K := $(Lean.mkIdent `K))); (· walk_at "ev"))
  | ((with_reducible apply e_lenC (K := $(Lean.mkIdent `K))); (· walk_at "ev"))
  | ((with_reducible apply e_sumT (K := $(Lean.mkIdent `K))); (· walk_at "ev"))
  | ((with_reducible apply e_catT (K := $(Lean.mkIdent `K))); (· walk_at "ev"); (· walk_at "ev"); (· walk_at "sd"))
  | ((with_reducible apply e_slT (K := $(Lean.mkIdent `K))); (· walk_at "ev"); (· walk_at "oy"); (· walk_at "oy"))
  | ((with_reducible apply EO.frz (K := $(Lean.mkIdent `K))); (· walk_at "eo")))
local macro_rules | `(tactic| walk_at "eo") => `(tactic| first
  | with_reducible assumption
  | walk_at "ocall"
  | ((with_reducible apply o_lst (K := $(Lean.mkIdent `K))); (· walk_at "ed"); (· walk_at "ln"))
  | ((with_reducible apply o_listC (K := $(Lean.mkIdent `K))); (· walk_at "ev"))
  | ((with_reducible apply o_list (K := $(Lean.mkIdent `K))); (· walk_at "ev"); (· walk_at "lr"))
  | ((with_reducible apply o_listT (K := $(Lean.mkIdent `K))); (· walk_at "ev"))
  | ((with_reducible apply o_catM (K := $(Lean.mkIdent `K))); (· walk_at "ev"); (· walk_at "ev"); (· walk_at "lr"); (· walk_at "lr"); (· walk_at "sd"))
  | ((with_reducible apply o_cat (K := $(Lean.mkIdent `K))); (· walk_at "ev"); (· walk_at "ev"); (· walk_at "lr"); (· walk_at "lr"); (· walk_at "sd"))
  | ((with_reducible apply o_cut2 (K := $(Lean.mkIdent `K))); (· walk_at "ev"); (· walk_at "ev"); (· walk_at "ev"); (· walk_at "lr"); (· walk_at "sd"); (· walk_at "sd"))
  | ((with_reducible apply o_cutL (K := $(Lean.mkIdent `K))); (· walk_at "ev"); (· walk_at "ev"); (· walk_at "lr"); (· walk_at "sd"))
  | ((with_reducible apply o_cutH (K := $(Lean.mkIdent `K))); (· walk_at "ev"); (· walk_at "ev"); (· walk_at "lr"); (· walk_at "sd"))
  | ((with_reducible apply o_slM (K := $(Lean.mkIdent `K))); (· walk_at "ev"); (· walk_at "oy"); (· walk_at "oy"); (· walk_at "lr"))
  | ((with_reducible apply o_sl (K := $(Lean.mkIdent `K))); (· walk_at "ev"); (· walk_at "oy"); (· walk_at "oy"); (· walk_at "lr"))
  | ((with_reducible apply o_revM (K := $(Lean.mkIdent `K))); (· walk_at "ev"); (· walk_at "lr"))
  | ((with_reducible apply o_rev (K := $(Lean.mkIdent `K))); (· walk_at "ev"); (· walk_at "lr"))
  | ((with_reducible apply o_mapL (K := $(Lean.mkIdent `K))); (· walk_at "ev"); (· walk_at "sd"); (· intro x hx; walk_at "ev"); (· decide))
  | ((with_reducible apply o_mapT (K := $(Lean.mkIdent `K))); (· walk_at "ev"); (· walk_at "sd"); (· intro x hx; walk_at "ev"); (· decide))
  | ((with_reducible apply o_mapR (K := $(Lean.mkIdent `K))); (· walk_at "ev"); (· walk_at "sd"); (· intro x hx; walk_at "ev"); (· decide))
  | ((with_reducible apply o_mapR2 (K := $(Lean.mkIdent `K))); (· walk_at "ev"); (· walk_at "ev"); (· walk_at "sd"); (· intro x hx hy; walk_at "ev"); (· decide))
  | ((with_reducible apply o_filtL (K := $(Lean.mkIdent `K))); (· walk_at "ev"); (· walk_at "sd"); (· intro x hx; walk_at "tv"); (· intro x hx hy; walk_at "ev"); (· decide))
  | ((with_reducible apply o_filtR (K := $(Lean.mkIdent `K))); (· walk_at "ev"); (· walk_at "sd"); (· intro x hx; walk_at "tv"); (· intro x hx hy; walk_at "ev"); (· decide)))
local macro_rules | `(tactic| walk_at "tv") => `(tactic| first
  | with_reducible assumption
  | with_reducible exact t_yes
  | ((with_reducible apply t_not); (· walk_at "tv"))
  | ((with_reducible apply t_and); (· walk_at "tv"); (· walk_at "hyp"; walk_at "tv"))
  | ((with_reducible apply t_or); (· walk_at "tv"); (· walk_at "hyp"; walk_at "tv"))
  | ((with_reducible apply t_B (K := $(Lean.mkIdent `K))); (· walk_at "ev"))
  | ((with_reducible apply t_test (K := $(Lean.mkIdent `K))); (· walk_at "ev")))
local macro_rules | `(tactic| walk_at "oy") => `(tactic| first | with_reducible exact y_none | ((with_reducible apply y_some (K := $(Lean.mkIdent `K))); (· walk_at "ev")))
local macro_rules | `(tactic| walk_at "ea") => `(tactic| first | with_reducible exact a_nil | ((with_reducible apply a_cons); (· walk_at "ev"); (· walk_at "ea")))
local macro_rules | `(tactic| walk_at "ed") => `(tactic| first | with_reducible exact d_nil (K := $(Lean.mkIdent `K)) | ((with_reducible apply d_cons (K := $(Lean.mkIdent `K))); (· walk_at "ev"); (· walk_at "ed")) | ((with_reducible apply d_star (K := $(Lean.mkIdent `K))); (· walk_at "ev"); (· walk_at "lr"); (· walk_at "ed"); (· rfl)))
local macro_rules | `(tactic| walk_at "yle1") => `(tactic| first | with_reducible exact Le.refl _ | ((with_reducible refine Le.same ?_); walk_at "yle1") | ((with_reducible refine Le.drop ?_); walk_at "yle1") | (refine Le.same ?_; walk_at "yle1") | (refine Le.drop ?_; walk_at "yle1"))
local macro_rules | `(tactic| walk_at "le") => `(tactic| ((try dsimp only [List.set]); walk_at "yle1"))
local macro_rules | `(tactic| walk_at "let") => `(tactic| refine s_let (by walk_at "ev") ?_)
local macro_rules | `(tactic| walk_at "do") => `(tactic| refine s_do (by walk_at "ev") ?_)
local macro_rules | `(tactic| walk_at "ret") => `(tactic| refine s_ret (by walk_at "ev") ?_)
local macro_rules | `(tactic| walk_at "retD") => `(tactic| (refine s_ret (by walk_at "ev") ?_; refine back_D (imp_D ?_)))
local macro_rules | `(tactic| walk_at "ret=") => `(tactic| (refine s_ret (by walk_at "ev") ?_; refine back_D (imp_D ?_); rfl))
local macro_rules | `(tactic| walk_at "retK") => `(tactic| (refine s_ret (by walk_at "ev") ?_; refine back_K (imp_D ?_) ?_ <;> rfl))
local macro_rules | `(tactic| walk_at "no") => `(tactic| refine s_ifr (by walk_at "tv") (fun h => by cases h) (fun _ => ?_))
local macro_rules | `(tactic| walk_at "unp2") => `(tactic| refine s_unp2 (K := $(Lean.mkIdent `K)) (by walk_at "ev") ?_)
local macro_rules | `(tactic| walk_at "sr") => `(tactic| first | exact sr_F | with_reducible assumption | exact sr_O 0 rfl | exact sr_O 1 rfl | exact sr_O 2 rfl | exact sr_O 3 rfl | exact sr_O 4 rfl | (refine sr_cons ?_; walk_at "sr"))
local macro_rules | `(tactic| walk_at "call") => `(tactic| first
  | ((with_reducible apply e_draw); (· walk_at "ea"); (· walk_at "sd"))
  | ((with_reducible apply e_shBase); (· walk_at "ev"); (· walk_at "sr"))
  | ((with_reducible apply e_shRows); (· walk_at "ev"); (· walk_at "sr"))
  | ((with_reducible apply e_shVal); (· walk_at "ev"); (· walk_at "sr"); (· walk_at "sd"))
  | ((with_reducible apply e_shLen); (· walk_at "ev"); (· walk_at "sr"); (· walk_at "sd"))
  | ((with_reducible apply e_shIx); (· walk_at "ev"); (· walk_at "ev"); (· walk_at "sr"); (· walk_at "sd"))
  | ((with_reducible apply e_wrBase); (· walk_at "ev"))
  | ((with_reducible apply e_wrLast); (· walk_at "ev"))
  | ((with_reducible apply e_wrVal); (· walk_at "ev"); (· walk_at "sd"))
  | ((with_reducible apply e_wrRest); (· walk_at "ev"); (· walk_at "ev"); (· walk_at "sd"); (· walk_at "sd"))
  | ((with_reducible apply e_wrSub); (· walk_at "ev"); (· walk_at "ev"); (· walk_at "sr"); (· walk_at "sd"); (· walk_at "sd"); (· walk_at "sd"))
  | ((with_reducible apply e_wrEq); (· walk_at "ev"); (· walk_at "ev"))
  | ((with_reducible apply e_mkWr); (· walk_at "ev"); (· walk_at "ev"); (· walk_at "ev"); (· walk_at "lr"))
  | ((with_reducible apply e_shCmp); (· walk_at "ev"); (· walk_at "ev"); (· walk_at "sr"); (· walk_at "sr"))
  | ((with_reducible apply e_whole); (· walk_at "ea"))
  | ((with_reducible apply e_d1); (· walk_at "ea"))
  | ((with_reducible apply e_place); (· walk_at "ea"); (· walk_at "sd"))
  | ((with_reducible apply e_power); (· walk_at "ea"); (· walk_at "sd"); (· walk_at "sd"))
  | ((with_reducible apply e_lcol); (· walk_at "ea"); (· walk_at "sd"); (· walk_at "sd"))
  | ((with_reducible apply e_isiT2); (· walk_at "ev")))
local macro_rules | `(tactic| walk_at "ocall") => `(tactic| first
  | ((with_reducible apply o_shCols); (· walk_at "ev"); (· walk_at "sr"))
  | ((with_reducible apply o_wrFigs); (· walk_at "ev"))
  | ((with_reducible apply o_lcols); (· walk_at "ea"); (· walk_at "sd"); (· walk_at "sd"); (· walk_at "sd")))
local macro_rules | `(tactic| walk_at "bk") => `(tactic| (apply backY_mk; (· exact ⟨rfl, rfl⟩); (case hs => first | exact List.Sublist.refl _ | exact List.nil_sublist _ | exact List.sublist_cons_self _ _ | exact List.sublist_append_left _ _); refine imp_D ?_))
local macro_rules | `(tactic| walk_at "retR") => `(tactic| (refine s_ret (by walk_at "ev") ?_; walk_at "bk"))
local macro_rules | `(tactic| walk_at "retR=") => `(tactic| (walk_at "retR"; rfl))
local macro_rules | `(tactic| walk_at "call") => `(tactic| ((with_reducible apply e_lv); (· walk_at "ea"); (· walk_at "lr"); (· walk_at "sd"); (· walk_at "sd")))
local macro_rules | `(tactic| walk_at "Ret") => `(tactic| ((with_reducible apply s_ret); (· walk_at "ev")))
local macro_rules | `(tactic| walk_at "Let") => `(tactic| ((with_reducible apply s_let); (· walk_at "ev")))
local macro_rules | `(tactic| walk_at "Do") => `(tactic| ((with_reducible apply s_do); (· walk_at "ev")))
local macro_rules | `(tactic| walk_at "Own") => `(tactic| ((with_reducible apply s_own); (· walk_at "eo"); intro; (try simp only [List.nil_append, List.cons_append])))
local macro_rules | `(tactic| walk_at "Ifr") => `(tactic| ((with_reducible apply s_ifr); (· walk_at "tv")))
local macro_rules | `(tactic| walk_at "Ifs") => `(tactic| ((with_reducible apply s_ifs); (· walk_at "tv")))
local macro_rules | `(tactic| walk_at "If") => `(tactic| ((with_reducible apply s_if); (· walk_at "tv")))
local macro_rules | `(tactic| walk_at "No") => `(tactic| (walk_at "Ifr"; (· (intro hh; exfalso; revert hh; first | simp; done | (simp; omega))); intro _))
local macro_rules | `(tactic| walk_at "Unp") => `(tactic| first | ((with_reducible apply s_unp2); (· walk_at "ev")) | ((with_reducible apply s_unp3); (· walk_at "ev")) | ((with_reducible apply s_unp2P); (· walk_at "ev")))
local macro_rules | `(tactic| walk_at "go") => `(tactic| repeat (first | walk_at "Let" | walk_at "Do" | walk_at "Unp"))
local macro_rules | `(tactic| walk_at "Ff") => `(tactic| (walk_at "Ifr"; (· (intro hh; cases hh)); intro _))
local macro_rules | `(tactic| walk_at "Set") => `(tactic| ((with_reducible apply s_set); (· walk_at "ev")))
local macro_rules | `(tactic| walk_at "RetD") => `(tactic| (walk_at "Ret"; refine back_D (imp_D ?_)))
local macro_rules | `(tactic| walk_at "Tt") => `(tactic| (walk_at "Ifr"; rotate_left; (· (intro hh; cases hh)); intro _))
local macro_rules | `(tactic| walk_at "RetR") => `(tactic| (walk_at "Ret"; walk_at "bk"))
local macro_rules | `(tactic| walk_at "call") => `(tactic| ((with_reducible apply e_isiO (ic := ($(Lean.mkIdent `T)).ic_Written) (cl := ($(Lean.mkIdent `T)).cl_Written) (hk := ($(Lean.mkIdent `T)).io_Written)); (· walk_at "ev"); (· exact ins_wr)))
local macro_rules | `(tactic| walk_at "call") => `(tactic| ((with_reducible apply e_isiO (ic := ($(Lean.mkIdent `T)).ic_Sheet) (cl := ($(Lean.mkIdent `T)).cl_Sheet) (hk := ($(Lean.mkIdent `T)).io_Sheet)); (· walk_at "ev"); (· (apply ins_sh; walk_at "sr"))))
local macro_rules | `(tactic| walk_at "call") => `(tactic| first
  | (refine e_eqW .right rfl ?_; walk_at "ev")
  | (refine e_eqW .twice rfl ?_; walk_at "ev")
  | (refine e_eqW .out rfl ?_; walk_at "ev")
  | (refine e_eqW .swap rfl ?_; walk_at "ev")
  | (refine e_eqW .forget rfl ?_; walk_at "ev")
  | (refine e_eqW .again rfl ?_; walk_at "ev")
  | (refine e_neW .right rfl ?_; walk_at "ev")
  | (refine e_neW .twice rfl ?_; walk_at "ev")
  | (refine e_neW .out rfl ?_; walk_at "ev")
  | (refine e_neW .swap rfl ?_; walk_at "ev")
  | (refine e_neW .forget rfl ?_; walk_at "ev"))
local macro_rules | `(tactic| walk_at "rd") => `(tactic| first | exact rd_D | assumption | (refine rd_L ?_; walk_at "lr"))
local macro_rules | `(tactic| walk_at "call") => `(tactic| first
  | ((with_reducible apply e_fldP); (· walk_at "ev"); (· exact ($(Lean.mkIdent `T)).cl_Kind); (· first | exact ($(Lean.mkIdent `T)).na_Kind__base | exact ($(Lean.mkIdent `T)).na_Kind__rows | exact ($(Lean.mkIdent `T)).na_Kind__deeds | exact ($(Lean.mkIdent `T)).na_Kind__most); (· rfl))
  | ((with_reducible apply e_isiO (ic := ($(Lean.mkIdent `T)).ic_Kind) (cl := ($(Lean.mkIdent `T)).cl_Kind) (hk := ($(Lean.mkIdent `T)).io_Kind)); (· walk_at "ev"); (· exact ins_ob)))
def topS (i : Nat) : Stmt := PySem.Challenge.pw_sumslips_k59_strings_that_are_no_slips.main.body.getD i (.Pass ⟨0, 0, 0, 0⟩)
abbrev s__law_cells : Stmt := topS 30
abbrev s__law_deck : Stmt := topS 31
abbrev s__law_draw : Stmt := topS 32
abbrev s__law_near : Stmt := topS 37
abbrev s__law_deed_texts : Stmt := topS 38
abbrev s__law_number : Stmt := topS 39
abbrev s__law_is_text : Stmt := topS 40
abbrev s_deeds_of : Stmt := topS 1
abbrev s_show_integer : Stmt := topS 22
abbrev s_show_deed : Stmt := topS 25
abbrev s_read_deed : Stmt := topS 26
abbrev s_read_integer : Stmt := topS 23
abbrev s_read_slips : Stmt := topS 28
abbrev s__law_read : Stmt := topS 41
abbrev s_show_slips : Stmt := topS 27
abbrev s__law_right : Stmt := topS 42
abbrev s__law_spoilt : Stmt := topS 34
abbrev s__law_deed : Stmt := topS 33
abbrev s__law_deed_text : Stmt := topS 35
abbrev s__law_text : Stmt := topS 36
abbrev s_law : Stmt := topS 43
theorem sc__law_cells : FnScope ["script"] ["script"] (defScope s__law_cells) := ⟨rfl, rfl, rfl, by decide +kernel, rfl, by decide +kernel, by decide +kernel⟩
theorem sc__law_deck : FnScope ["cell"] ["cell"] (defScope s__law_deck) := ⟨rfl, rfl, rfl, by decide +kernel, rfl, by decide +kernel, by decide +kernel⟩
theorem sc__law_draw : FnScope ["deck", "many", "stir", "drawn"] ["deck", "many"] (defScope s__law_draw) := ⟨rfl, rfl, rfl, by decide +kernel, rfl, by decide +kernel, by decide +kernel⟩
theorem sc__law_near : FnScope ["deck", "some"] ["deck"] (defScope s__law_near) := ⟨rfl, rfl, rfl, by decide +kernel, rfl, by decide +kernel, by decide +kernel⟩
theorem sc__law_deed_texts : FnScope ["texts", "j", "d"] [] (defScope s__law_deed_texts) := ⟨rfl, rfl, rfl, by decide +kernel, rfl, by decide +kernel, by decide +kernel⟩
theorem sc__law_number : FnScope ["word", "char"] ["word"] (defScope s__law_number) := ⟨rfl, rfl, rfl, by decide +kernel, rfl, by decide +kernel, by decide +kernel⟩
theorem sc__law_is_text : FnScope ["value", "texts", "low", "part", "head", "gap", "tail"] ["value"] (defScope s__law_is_text) := ⟨rfl, rfl, rfl, by decide +kernel, rfl, by decide +kernel, by decide +kernel⟩
theorem sc_deeds_of : FnScope ["base", "rows", "offs", "reads", "copies", "by", "row"] ["base", "rows"] (defScope s_deeds_of) := ⟨rfl, rfl, rfl, by decide +kernel, rfl, by decide +kernel, by decide +kernel⟩
theorem sc_show_integer : FnScope ["number", "pieces"] ["number"] (defScope s_show_integer) := ⟨rfl, rfl, rfl, by decide +kernel, rfl, by decide +kernel, by decide +kernel⟩
theorem sc_show_deed : FnScope ["deed", "number"] ["deed"] (defScope s_show_deed) := ⟨rfl, rfl, rfl, by decide +kernel, rfl, by decide +kernel, by decide +kernel⟩
theorem sc_read_deed : FnScope ["text", "deed"] ["text"] (defScope s_read_deed) := ⟨rfl, rfl, rfl, by decide +kernel, rfl, by decide +kernel, by decide +kernel⟩
theorem sc_read_integer : FnScope ["word", "number", "digit"] ["word"] (defScope s_read_integer) := ⟨rfl, rfl, rfl, by decide +kernel, rfl, by decide +kernel, by decide +kernel⟩
theorem sc_read_slips : FnScope ["text", "slips", "low", "item", "word", "_", "told", "column", "deed"] ["text"] (defScope s_read_slips) := ⟨rfl, rfl, rfl, by decide +kernel, rfl, by decide +kernel, by decide +kernel⟩
theorem sc__law_read : FnScope ["value", "told", "e", "odd"] ["value"] (defScope s__law_read) := ⟨rfl, rfl, rfl, by decide +kernel, rfl, by decide +kernel, by decide +kernel⟩
theorem sc_show_slips : FnScope ["slips", "column", "deed"] ["slips"] (defScope s_show_slips) := ⟨rfl, rfl, rfl, by decide +kernel, rfl, by decide +kernel, by decide +kernel⟩
theorem sc__law_right : FnScope ["value", "told"] ["value"] (defScope s__law_right) := ⟨rfl, rfl, rfl, by decide +kernel, rfl, by decide +kernel, by decide +kernel⟩
theorem sc__law_spoilt : FnScope ["deck", "text", "way", "at", "to", "chars", "char", "some", "swapped"] ["deck", "text"] (defScope s__law_spoilt) := ⟨rfl, rfl, rfl, by decide +kernel, rfl, by decide +kernel, by decide +kernel⟩
theorem sc__law_deed : FnScope ["deck", "base", "rows", "way", "d", "j"] ["deck", "base", "rows"] (defScope s__law_deed) := ⟨rfl, rfl, rfl, by decide +kernel, rfl, by decide +kernel, by decide +kernel⟩
theorem sc__law_deed_text : FnScope ["deed", "text", "number"] ["deed"] (defScope s__law_deed_text) := ⟨rfl, rfl, rfl, by decide +kernel, rfl, by decide +kernel, by decide +kernel⟩
theorem sc__law_text : FnScope ["deck", "many", "pieces", "column", "k"] ["deck"] (defScope s__law_text) := ⟨rfl, rfl, rfl, by decide +kernel, rfl, by decide +kernel, by decide +kernel⟩
theorem sc_law : FnScope ["script", "cell", "deck", "way", "text", "value"] ["script"] (defScope s_law) := ⟨rfl, rfl, rfl, by decide +kernel, rfl, by decide +kernel, by decide +kernel⟩
structure Txt (K : PySem.W.Frag) (mg : Str → Option Value) where
  c_SlipError : Addr
  m_SlipError : mg "SlipError" = some (.ref c_SlipError)
  c_InvalidSheet : Addr
  m_InvalidSheet : mg "InvalidSheet" = some (.ref c_InvalidSheet)
  c_InvalidColumn : Addr
  m_InvalidColumn : mg "InvalidColumn" = some (.ref c_InvalidColumn)
  c_InvalidKind : Addr
  m_InvalidKind : mg "InvalidKind" = some (.ref c_InvalidKind)
  c_InvalidLot : Addr
  m_InvalidLot : mg "InvalidLot" = some (.ref c_InvalidLot)
  c_NotAlike : Addr
  m_NotAlike : mg "NotAlike" = some (.ref c_NotAlike)
  c_NotPossible : Addr
  m_NotPossible : mg "NotPossible" = some (.ref c_NotPossible)
  c_TooMany : Addr
  m_TooMany : mg "TooMany" = some (.ref c_TooMany)
  c_Waits : Addr
  m_Waits : mg "Waits" = some (.ref c_Waits)
  c_InvalidText : Addr
  m_InvalidText : mg "InvalidText" = some (.ref c_InvalidText)
  c_InvalidCommand : Addr
  m_InvalidCommand : mg "InvalidCommand" = some (.ref c_InvalidCommand)
  c_NothingToUndo : Addr
  m_NothingToUndo : mg "NothingToUndo" = some (.ref c_NothingToUndo)
  c_NotReady : Addr
  m_NotReady : mg "NotReady" = some (.ref c_NotReady)
  c_InvalidSlips : Addr
  m_InvalidSlips : mg "InvalidSlips" = some (.ref c_InvalidSlips)
  a__law_cells : Addr
  fd__law_cells : FuncData
  F__law_cells : Fun K "_law_cells" "_law_cells" s__law_cells a__law_cells fd__law_cells
  b__law_cells : Binds K fd__law_cells ["script"] []
  m__law_cells : mg "_law_cells" = some (.ref a__law_cells)
  a__law_deck : Addr
  fd__law_deck : FuncData
  F__law_deck : Fun K "_law_deck" "_law_deck" s__law_deck a__law_deck fd__law_deck
  b__law_deck : Binds K fd__law_deck ["cell"] []
  m__law_deck : mg "_law_deck" = some (.ref a__law_deck)
  a__law_draw : Addr
  fd__law_draw : FuncData
  F__law_draw : Fun K "_law_draw" "_law_draw" s__law_draw a__law_draw fd__law_draw
  b__law_draw : Binds K fd__law_draw ["deck", "many"] []
  m__law_draw : mg "_law_draw" = some (.ref a__law_draw)
  a__law_near : Addr
  fd__law_near : FuncData
  F__law_near : Fun K "_law_near" "_law_near" s__law_near a__law_near fd__law_near
  b__law_near : Binds K fd__law_near ["deck"] []
  m__law_near : mg "_law_near" = some (.ref a__law_near)
  a__law_deed_texts : Addr
  fd__law_deed_texts : FuncData
  F__law_deed_texts : Fun K "_law_deed_texts" "_law_deed_texts" s__law_deed_texts a__law_deed_texts fd__law_deed_texts
  b__law_deed_texts : Binds K fd__law_deed_texts [] []
  m__law_deed_texts : mg "_law_deed_texts" = some (.ref a__law_deed_texts)
  a__law_number : Addr
  fd__law_number : FuncData
  F__law_number : Fun K "_law_number" "_law_number" s__law_number a__law_number fd__law_number
  b__law_number : Binds K fd__law_number ["word"] []
  m__law_number : mg "_law_number" = some (.ref a__law_number)
  a__law_is_text : Addr
  fd__law_is_text : FuncData
  F__law_is_text : Fun K "_law_is_text" "_law_is_text" s__law_is_text a__law_is_text fd__law_is_text
  b__law_is_text : Binds K fd__law_is_text ["value"] []
  m__law_is_text : mg "_law_is_text" = some (.ref a__law_is_text)
  a_deeds_of : Addr
  fd_deeds_of : FuncData
  F_deeds_of : Fun K "deeds_of" "deeds_of" s_deeds_of a_deeds_of fd_deeds_of
  b_deeds_of : Binds K fd_deeds_of ["base", "rows"] []
  m_deeds_of : mg "deeds_of" = some (.ref a_deeds_of)
  a_show_integer : Addr
  fd_show_integer : FuncData
  F_show_integer : Fun K "show_integer" "show_integer" s_show_integer a_show_integer fd_show_integer
  b_show_integer : Binds K fd_show_integer ["number"] []
  m_show_integer : mg "show_integer" = some (.ref a_show_integer)
  a_show_deed : Addr
  fd_show_deed : FuncData
  F_show_deed : Fun K "show_deed" "show_deed" s_show_deed a_show_deed fd_show_deed
  b_show_deed : Binds K fd_show_deed ["deed"] []
  m_show_deed : mg "show_deed" = some (.ref a_show_deed)
  a_read_deed : Addr
  fd_read_deed : FuncData
  F_read_deed : Fun K "read_deed" "read_deed" s_read_deed a_read_deed fd_read_deed
  b_read_deed : Binds K fd_read_deed ["text"] []
  m_read_deed : mg "read_deed" = some (.ref a_read_deed)
  a_read_integer : Addr
  fd_read_integer : FuncData
  F_read_integer : Fun K "read_integer" "read_integer" s_read_integer a_read_integer fd_read_integer
  b_read_integer : Binds K fd_read_integer ["word"] []
  m_read_integer : mg "read_integer" = some (.ref a_read_integer)
  a_read_slips : Addr
  fd_read_slips : FuncData
  F_read_slips : Fun K "read_slips" "read_slips" s_read_slips a_read_slips fd_read_slips
  b_read_slips : Binds K fd_read_slips ["text"] []
  m_read_slips : mg "read_slips" = some (.ref a_read_slips)
  a__law_read : Addr
  fd__law_read : FuncData
  F__law_read : Fun K "_law_read" "_law_read" s__law_read a__law_read fd__law_read
  b__law_read : Binds K fd__law_read ["value"] []
  m__law_read : mg "_law_read" = some (.ref a__law_read)
  a_show_slips : Addr
  fd_show_slips : FuncData
  F_show_slips : Fun K "show_slips" "show_slips" s_show_slips a_show_slips fd_show_slips
  b_show_slips : Binds K fd_show_slips ["slips"] []
  m_show_slips : mg "show_slips" = some (.ref a_show_slips)
  a__law_right : Addr
  fd__law_right : FuncData
  F__law_right : Fun K "_law_right" "_law_right" s__law_right a__law_right fd__law_right
  b__law_right : Binds K fd__law_right ["value"] []
  m__law_right : mg "_law_right" = some (.ref a__law_right)
  a__law_spoilt : Addr
  fd__law_spoilt : FuncData
  F__law_spoilt : Fun K "_law_spoilt" "_law_spoilt" s__law_spoilt a__law_spoilt fd__law_spoilt
  b__law_spoilt : Binds K fd__law_spoilt ["deck", "text"] []
  m__law_spoilt : mg "_law_spoilt" = some (.ref a__law_spoilt)
  a__law_deed : Addr
  fd__law_deed : FuncData
  F__law_deed : Fun K "_law_deed" "_law_deed" s__law_deed a__law_deed fd__law_deed
  b__law_deed : Binds K fd__law_deed ["deck", "base", "rows"] []
  m__law_deed : mg "_law_deed" = some (.ref a__law_deed)
  a__law_deed_text : Addr
  fd__law_deed_text : FuncData
  F__law_deed_text : Fun K "_law_deed_text" "_law_deed_text" s__law_deed_text a__law_deed_text fd__law_deed_text
  b__law_deed_text : Binds K fd__law_deed_text ["deed"] []
  m__law_deed_text : mg "_law_deed_text" = some (.ref a__law_deed_text)
  a__law_text : Addr
  fd__law_text : FuncData
  F__law_text : Fun K "_law_text" "_law_text" s__law_text a__law_text fd__law_text
  b__law_text : Binds K fd__law_text ["deck"] []
  m__law_text : mg "_law_text" = some (.ref a__law_text)
  a_law : Addr
  fd_law : FuncData
  F_law : Fun K "law" "law" s_law a_law fd_law
  b_law : Binds K fd_law ["script"] []
  m_law : mg "law" = some (.ref a_law)
  x_InvalidText : PySem.W.excIn K c_InvalidText [.type "ValueError", .type "Exception", .type "BaseException", .type "object"] "ValueError.__new__" = true
  xk_InvalidText : PySem.W.keepIn K (.ref c_InvalidText) = true
  xb_InvalidText : PySem.W.subIn K (.ref c_InvalidText) (.type "BaseException") = some true
  xt_InvalidText : PySem.W.typeIn K (.ref c_InvalidText) = some (.type "type")
  e_InvalidText : ExcC K c_InvalidText
  em_InvalidText_SlipError : PySem.W.exmOne K (.ref c_InvalidText) (.ref c_SlipError) = some true
  q_InvalidText_InvalidText : PySem.W.kitOne K (.ref c_InvalidText) (.ref c_InvalidText) = some true
  q_InvalidText_ValueError : PySem.W.kitOne K (.ref c_InvalidText) (.type "ValueError") = some true
  qa_InvalidText_1 : PySem.W.kitAny K (.ref c_InvalidText) [.ref c_InvalidSheet, .ref c_InvalidCommand, .ref c_InvalidKind, .ref c_InvalidLot, .ref c_InvalidSlips, .ref c_InvalidColumn] = some false
  qa_InvalidText_2 : PySem.W.kitAny K (.ref c_InvalidText) [.ref c_NotAlike, .ref c_NotPossible, .ref c_NotReady, .ref c_NothingToUndo, .ref c_TooMany, .ref c_Waits] = some false
  n_ValueError : mg "ValueError" = none
  n_all : mg "all" = none
  n_int : mg "int" = none
  n_isinstance : mg "isinstance" = none
  n_len : mg "len" = none
  n_range : mg "range" = none
  n_str : mg "str" = none
  tk_DIGITS : Tok
  m_DIGITS : mg "DIGITS" = some (.str "0123456789" tk_DIGITS)
  tk_MOST_BASE : Tok
  m_MOST_BASE : mg "MOST_BASE" = some (.int 12 tk_MOST_BASE)
  tk_MOST_ROWS : Tok
  m_MOST_ROWS : mg "MOST_ROWS" = some (.int 4 tk_MOST_ROWS)
  tk_PIECE : Tok
  m_PIECE : mg "PIECE" = some (.int 1000000000 tk_PIECE)
section
variable {P : Program} {w : World} {K : PySem.W.Frag} {mg : Str → Option Value} {base : Heap}
theorem ok__law_cells (T : Txt K mg) : FnOk P w K mg base CX0 1 T.a__law_cells T.fd__law_cells ["script"] (spec (cellsPre K) (cellsPost K)) := by
  refine fn_sv T.F__law_cells sc__law_cells (fun x G M vs h => by obtain ⟨v, rfl, _⟩ := h; rfl) fun cdv A outer s H E hr => ⟨_, (pss_cons (ps_if (pt_cmpR (k_eqD (K := K) rfl hr.units) (pv 0) (pe_lst pa_nil) (nomark _)) (pss_one (ps_ret (pe_lst (pa_cons (pe_int) pa_nil)))) (pss_nil)) (pss_one (ps_ret (pe_slice (k_slL (K := K) rfl) (pv 0) po_none (po_some (pe_int)))))), ?_⟩
  rintro ns G M vs ⟨v, rfl, dv, hl⟩
  refine sv_ifs (et_test (ev_eqD (K := K) (d := .list (ns.map PyData.int)) (e := .list []) (ev_varP rfl dv) (Ev.frz (ev_lstO (ds := []) ea_nil (by decide))) (sh_ints (n := 0) ns).ok (sh_ints (n := 0) []).ok)) ?_ ?_
  · intro G1 e1 hb
    have hn : ns = [] := by
      have := eqv_lst ns []
      rw [show ([] : List Int).map PyData.int = [] from rfl, hb] at this
      exact of_decide_eq_true this.symm
    subst hn
    exact sv_ret (Ev.frz (ev_lstO (K := K) (ds := [.int 0]) (ea_cons (ev_iD ev_c) ea_nil) (by decide))) fun v' G' M' e r => r
  · intro G1 e1 hb
    refine sv_next fun G2 e2 => ?_
    have hn : ¬ ns = [] := fun z => by
      subst z
      cases hb
    refine sv_ret (Ev.frz (ev_slL (ds := ns.map PyData.int) (lo := none) (hi := some ((63 : Nat) : Int)) (ev_varP rfl (dm dv (e1.trans e2))) eo_none (eo_some ev_c))) fun v' G' M' e r => ?_
    rw [cutD_take, ← List.map_take] at r
    show isD K (.list ((cellsOf ns).map PyData.int)) M G' v' M'
    unfold cellsOf
    rw [if_neg hn]
    exact r
theorem ok__law_deck (T : Txt K mg) : FnOk P w K mg base CX0 1 T.a__law_deck T.fd__law_deck ["cell"] (spec deckPre deckPost) := by
  refine fn_sv T.F__law_deck sc__law_deck (fun x G M vs h => by cases h; rfl) fun cdv A outer s H E hr => ⟨_, (pss_cons (ps_if (pt_cmpR op_ge (pv 0) (pe_op op_pow (pe_int) (pe_int)) (nomark _)) (pss_one (ps_ret (pe_lst (pa_cons (pe_op op_sub (pv 0) (pe_op op_pow (pe_int) (pe_int))) (pa_cons (pe_int) (pa_cons (pe_int) pa_nil)))))) (pss_nil)) (pss_one (ps_ret (pe_lst (pa_cons (pe_int) (pa_cons (pe_int) (pa_cons (pe_op op_add (pe_op op_mod (pe_callTy c_int (by rfl) T.n_int (by decide +kernel) (pa_cons (pv 0) pa_nil)) (pe_int)) (pe_int)) pa_nil))))))), ?_⟩
  rintro c G M vs rfl
  have hp : ∀ G' , Ev (tOp (rI CPow fun i j => .int (i ^ j.toNat)) (tC (.int 10)) (tC (.int 18))) (start ["cell"] [.int c]) G' M (isV (.int (10 ^ 18)) M) := fun G' => ev_I ev_c ev_c ⟨by decide, by decide, by decide⟩
  refine sv_ifs (et_test (ev_I0 (ev_var rfl) (hp _))) ?_ ?_
  · intro G1 e1 hb
    have hc : (10 : Int) ^ 18 ≤ c := of_decide_eq_true hb
    refine sv_ret (ev_lstI (xs := [.int (c - 10 ^ 18), .int 0, .int 1]) (ea_cons (ev_I0 (ev_var rfl) (hp _)) (ea_cons ev_c (ea_cons ev_c ea_nil))) (by show 3 ≤ 1000; decide)) fun v' G' M' e r => ?_
    show ∃ dk, v' = .ref dk ∧ M' = M ++ [(dk, (deckOf c).ho)]
    unfold deckOf
    rw [if_pos hc]
    exact r
  · intro G1 e1 hb
    have hc : ¬ (10 : Int) ^ 18 ≤ c := of_decide_eq_false hb
    refine sv_next fun G2 e2 => sv_ret (ev_lstI (xs := [.int 0, .int 0, .int (c % 2147483629 + 2)]) (ea_cons ev_c (ea_cons ev_c (ea_cons (ev_I0 (ev_I (ev_int (ev_var rfl)) ev_c (by decide)) ev_c) ea_nil))) (by show 3 ≤ 1000; decide)) fun v' G' M' e r => ?_
    show ∃ dk, v' = .ref dk ∧ M' = M ++ [(dk, (deckOf c).ho)]
    unfold deckOf
    rw [if_neg hc]
    exact r
theorem ok__law_draw (T : Txt K mg) : FnOk P w K mg base CX0 1 T.a__law_draw T.fd__law_draw ["deck", "many"] (spec drawPre drawPost) := by
  refine fn_sv T.F__law_draw sc__law_draw (fun x G M vs h => by obtain ⟨rfl, _⟩ := h; rfl) fun cdv A outer s H E hr => ⟨_, (pss_cons (ps_if (pt_cmpR op_gt (pe_ix (k_ixL (K := K) rfl) (pv 0) (pe_int) (fun _ _ => rfl)) (pe_int) (nomark _)) (pss_cons (ps_set (i := 3) sc__law_draw.nd rfl (Or.inl rfl) (pe_op op_mod (pe_callTy c_int (by rfl) T.n_int (by decide +kernel) (pa_cons (pe_ix (k_ixL (K := K) rfl) (pv 0) (pe_int) (fun _ _ => rfl)) pa_nil)) (pv 1))) (pss_cons (ps_asg (pe_op op_fdivW (pe_ix (k_ixL (K := K) rfl) (pv 0) (pe_int) (fun _ _ => rfl)) (pv 1)) (pg_sub (pv 0) (pe_int) set_list)) (pss_one (ps_ret (pv 3))))) (pss_nil)) (pss_cons (ps_asg (pe_op op_add (pe_ix (k_ixL (K := K) rfl) (pv 0) (pe_int) (fun _ _ => rfl)) (pe_int)) (pg_sub (pv 0) (pe_int) set_list)) (pss_cons (ps_set (i := 2) sc__law_draw.nd rfl (Or.inl rfl) (pe_op op_mod (pe_callTy c_int (by rfl) T.n_int (by decide +kernel) (pa_cons (pe_op op_add (pe_op op_mul (pe_ix (k_ixL (K := K) rfl) (pv 0) (pe_int) (fun _ _ => rfl)) (pe_int)) (pe_op op_mul (pe_ix (k_ixL (K := K) rfl) (pv 0) (pe_int) (fun _ _ => rfl)) (pe_int))) pa_nil)) (pe_int))) (pss_cons (ps_set (i := 2) sc__law_draw.nd rfl (Or.inl rfl) (pe_op op_mod (pe_callTy c_int (by rfl) T.n_int (by decide +kernel) (pa_cons (pe_op op_add (pe_op op_mul (pv 2) (pv 2)) (pe_ix (k_ixL (K := K) rfl) (pv 0) (pe_int) (fun _ _ => rfl))) pa_nil)) (pe_int))) (pss_cons (ps_set (i := 2) sc__law_draw.nd rfl (Or.inl rfl) (pe_op op_mod (pe_callTy c_int (by rfl) T.n_int (by decide +kernel) (pa_cons (pe_op op_mul (pv 2) (pe_int)) pa_nil)) (pe_int))) (pss_one (ps_ret (pe_op op_mod (pe_callTy c_int (by rfl) T.n_int (by decide +kernel) (pa_cons (pe_op op_fdivW (pv 2) (pe_int)) pa_nil)) (pv 1))))))))), ?_⟩
  rintro ⟨dk, i, D, n⟩ G M vs ⟨rfl, (h0 : 0 < n), (h1 : n < 2 ^ 200), (hi : M[i]? = some (dk, .lst [.int D.a, .int D.b, .int D.c]))⟩
  obtain ⟨a, b, c⟩ := D
  have hw : CDivW a n := wide_div (b := 200) h0 (by omega) (by decide) (by decide)
  refine sv_ifs (et_test (ev_I0 (i := a) (ev_ixL (K := K) (ev_var rfl) ev_c (AtL.M hi) rfl) ev_c)) ?_ ?_
  · intro G1 e1 hb
    have ha : a > 0 := of_decide_eq_true hb
    refine sv_let (ev_I (ev_int (ev_ixL (K := K) (ev_var rfl) ev_c (AtL.M hi) rfl)) (ev_var rfl) h0) ?_
    rintro _ G2 M2 e2 ⟨rfl, rfl⟩
    refine sv_seq (N := fun G' σ' M' => σ' = [some (.ref dk), some (.int n), none, some (.int (a % n))] ∧ M' = M2.set i (dk, .lst [.int (a / n), .int b, .int c])) (sv_setIx (ev_I (ev_ixL (K := K) (ev_var rfl) ev_c (AtL.M hi) rfl) (ev_var rfl) hw) (ev_var rfl) ev_c hi rfl fun G' e => ⟨rfl, rfl⟩) ?_
    rintro G3 σ3 M3 e3 ⟨rfl, rfl⟩
    refine sv_ret (ev_var rfl) fun v' G' M' e r => ?_
    show v' = .int (dv ⟨a, b, c⟩ n) ∧ M' = M2.set i (dk, (dn ⟨a, b, c⟩ n).ho)
    unfold dv dn
    rw [if_pos ha, if_pos ha]
    exact r
  · intro G1 e1 hb
    have ha : ¬ a > 0 := of_decide_eq_false hb
    refine sv_next fun G2 e2 => ?_
    refine sv_seq (N := fun G' σ' M' => σ' = [some (.ref dk), some (.int n), none, none] ∧ M' = M.set i (dk, .lst [.int a, .int (b + 1), .int c])) (sv_setIx (ev_I0 (ev_ixL (K := K) (ev_var rfl) ev_c (AtL.M hi) rfl) ev_c) (ev_var rfl) ev_c hi rfl fun G' e => ⟨rfl, rfl⟩) ?_
    rintro G3 σ3 M3 e3 ⟨rfl, rfl⟩
    have hi' : (M.set i (dk, HO.lst [.int a, .int (b + 1), .int c]))[i]? = some (dk, .lst [.int a, .int (b + 1), .int c]) := by
      rw [List.getElem?_set_self (List.getElem?_eq_some_iff.mp hi).1]
    refine sv_let (ev_I (ev_int (ev_I0 (ev_I (ev_ixL (K := K) (ev_var rfl) ev_c (AtL.M hi') rfl) ev_c (.inr ⟨by decide, by decide⟩)) (ev_I (ev_ixL (K := K) (ev_var rfl) ev_c (AtL.M hi') rfl) ev_c (.inr ⟨by decide, by decide⟩)))) ev_c (by decide)) ?_
    rintro _ G4 M4 e4 ⟨rfl, rfl⟩
    have q1 : 0 ≤ (c * 48271 + (b + 1) * 69621) % 2147483647 := Int.emod_nonneg _ (by decide)
    have q2 : (c * 48271 + (b + 1) * 69621) % 2147483647 < 2147483647 := Int.emod_lt_of_pos _ (by decide)
    refine sv_let (ev_I (ev_int (ev_I0 (ev_I (ev_var rfl) (ev_var rfl) (.inr ⟨by omega, by omega⟩)) (ev_ixL (K := K) (ev_var rfl) ev_c (AtL.M hi') rfl))) ev_c (by decide)) ?_
    rintro _ G5 M5 e5 ⟨rfl, rfl⟩
    refine sv_let (ev_I (ev_int (ev_I (ev_var rfl) ev_c (.inr ⟨by decide, by decide⟩))) ev_c (by decide)) ?_
    rintro _ G6 M6 e6 ⟨rfl, rfl⟩
    refine sv_ret (ev_I (ev_int (ev_I (ev_var rfl) ev_c (wide_div (b := 200) (by decide) (by decide) (by decide) (by decide)))) (ev_var rfl) h0) fun v' G' M' e r => ?_
    show v' = .int (dv ⟨a, b, c⟩ n) ∧ M' = M.set i (dk, (dn ⟨a, b, c⟩ n).ho)
    unfold dv dn
    rw [if_neg ha, if_neg ha]
    exact r
abbrev nrT := Addr × Deck
abbrev nrA (K : PySem.W.Frag) (x : nrT) : List Pr := match x with | (dk, D0) => [Av dk]
abbrev nrM (x : nrT) : Mp := match x with | (dk, D0) => [(dk, DKo D0)]
abbrev nrR (K : PySem.W.Frag) (x : nrT) (Q : Pr) (μ : Mp) : Prop := match x with | (dk, D0) => ∃ (d : PyData) (D1 : Deck), Q = D K d ∧ OkV d ∧ μ = [(dk, DKo D1)]
def sp__law_near (K : PySem.W.Frag) : Sp := sp (nrA K) nrM (fun _ => True) (nrR K)
abbrev nrL0 : List PyData := [.str "", .str " ", .str "--", .str "-, 0 out", .str "0", .str "0 ", .str "0 off", .str "0 off 0", .str "0 off 12", .str "0 off 01", .str "0 off b", .str "0 off 1 1"]
abbrev nrL1 : List PyData := [.str "0 read 1", .str "0 read 4 1", .str "0 read 0 0", .str "0 read 0 12", .str "0 read 00 1", .str "0 copy", .str "0 copy 4"]
abbrev nrL2 : List PyData := [.str "0 out 0", .str "0 out, 0 out", .str "1 out, 0 out", .str "0 out,1 out", .str "0 out , 1 out", .str "0 out,  1 out"]
abbrev nrL3 : List PyData := [.str "0 out, ", .str ", 0 out"]
abbrev nrL4 : List PyData := [.str "00 out", .str "01 out", .str "-1 out", .str "+1 out", .str "out", .str "0 Out", .str "0  out", .str "0 out 1 out", .str "0 twice twice"]
abbrev nrL5 : List PyData := [.str "0 forget, 1 swap, 2 out", .str "9 out, 10 out", .str "10 out, 9 out", .str "0 read 3 11", .str "0 off 1.", .str "a out"]
abbrev nrL6 : List PyData := [.none, .int 0, .bool true, .list [.str "0 out"], .tuple [.str "0 out"], .list [], .list [.tuple [.int 0, .tuple [.str "out"]]]]
abbrev nrB : PyData → Bool
  | .str s => decide ((TL.tl s).length ≤ 3000) && decide (cD (TL.tl s) ≤ 640)
  | _ => true
theorem nr_ok {d : PyData} (h : nrB d = true) : OkV d := fun s e => by
  subst e
  have h : (decide ((TL.tl s).length ≤ 3000) && decide (cD (TL.tl s) ≤ 640)) = true := h
  simpa using h
abbrev nrAll : List PyData := ((((((nrL0 ++ nrL1) ++ nrL2) ++ nrL3) ++ nrL4) ++ nrL5) ++ nrL6)
theorem nr_all : nrAll.all nrB = true := by decide +kernel
theorem nr_len : nrAll.length = 49 := by decide +kernel
theorem ok__law_near (T : Txt K mg) : FnOk P w K mg base CX0 2 T.a__law_near T.fd__law_near ["deck"] (sp__law_near K) := by
  refine fn_Y T.F__law_near sc__law_near (fun _ => rfl) fun cdv A outer s H E hr => ⟨_, (pss_cons (ps_set (i := 1) sc__law_near.nd rfl (Or.inl rfl) (pe_lst (pa_cons (pe_str) (pa_cons (pe_str) (pa_cons (pe_str) (pa_cons (pe_str) (pa_cons (pe_str) (pa_cons (pe_str) (pa_cons (pe_str) (pa_cons (pe_str) (pa_cons (pe_str) (pa_cons (pe_str) (pa_cons (pe_str) (pa_cons (pe_str) pa_nil)))))))))))))) (pss_cons (ps_set (i := 1) sc__law_near.nd rfl (Or.inl rfl) (pe_op (k_cat (K := K) rfl) (pv 1) (pe_lst (pa_cons (pe_str) (pa_cons (pe_str) (pa_cons (pe_str) (pa_cons (pe_str) (pa_cons (pe_str) (pa_cons (pe_str) (pa_cons (pe_str) pa_nil)))))))))) (pss_cons (ps_set (i := 1) sc__law_near.nd rfl (Or.inl rfl) (pe_op (k_cat (K := K) rfl) (pv 1) (pe_lst (pa_cons (pe_str) (pa_cons (pe_str) (pa_cons (pe_str) (pa_cons (pe_str) (pa_cons (pe_str) (pa_cons (pe_str) pa_nil))))))))) (pss_cons (ps_set (i := 1) sc__law_near.nd rfl (Or.inl rfl) (pe_op (k_cat (K := K) rfl) (pv 1) (pe_lst (pa_cons (pe_str) (pa_cons (pe_str) pa_nil))))) (pss_cons (ps_set (i := 1) sc__law_near.nd rfl (Or.inl rfl) (pe_op (k_cat (K := K) rfl) (pv 1) (pe_lst (pa_cons (pe_str) (pa_cons (pe_str) (pa_cons (pe_str) (pa_cons (pe_str) (pa_cons (pe_str) (pa_cons (pe_str) (pa_cons (pe_str) (pa_cons (pe_str) (pa_cons (pe_str) pa_nil)))))))))))) (pss_cons (ps_set (i := 1) sc__law_near.nd rfl (Or.inl rfl) (pe_op (k_cat (K := K) rfl) (pv 1) (pe_lst (pa_cons (pe_str) (pa_cons (pe_str) (pa_cons (pe_str) (pa_cons (pe_str) (pa_cons (pe_str) (pa_cons (pe_str) pa_nil))))))))) (pss_cons (ps_set (i := 1) sc__law_near.nd rfl (Or.inl rfl) (pe_op (k_cat (K := K) rfl) (pv 1) (pe_lst (pa_cons (pe_non) (pa_cons (pe_int) (pa_cons (pe_bl) (pa_cons (pe_lst (pa_cons (pe_str) pa_nil)) (pa_cons (pe_tup (pa_cons (pe_str) pa_nil)) (pa_cons (pe_lst pa_nil) (pa_cons (pe_lst (pa_cons (pe_tup (pa_cons (pe_int) (pa_cons (pe_tup (pa_cons (pe_str) pa_nil)) pa_nil))) pa_nil)) pa_nil)))))))))) (pss_one (ps_ret (pe_ix (k_ixL (K := K) rfl) (pv 1) (pe_call (ok__law_draw T) (hr.mono (by decide)) (by rfl) T.m__law_draw T.F__law_draw.kp T.b__law_draw .nil pass0 (pa_cons (pv 0) (pa_cons (pe_callB (k_len (K := K) rfl) (by rfl) T.n_len (by decide +kernel) (pa_cons (pv 1) pa_nil)) pa_nil))) (fun _ _ => rfl))))))))))), ?_⟩
  rintro ⟨dk, D0⟩ -
  show S1 E _ [some (Av dk), none] [(dk, DKo D0)] { nx := fun _ μ => BackY (nrR K) (dk, D0) (D K .none) μ, rt := BackY (nrR K) (dk, D0) }
  try simp only [cx_K, cx_KX]
  refine s_let (Q := D K (.list nrL0)) (μ1 := [(dk, DKo D0)]) (EO.frz (o_lst (K := K) (ds := nrL0) (d_cons e_cS (d_cons e_cS (d_cons e_cS (d_cons e_cS (d_cons e_cS (d_cons e_cS (d_cons e_cS (d_cons e_cS (d_cons e_cS (d_cons e_cS (d_cons e_cS (d_cons e_cS d_nil)))))))))))) (by show 12 ≤ 100000; decide))) ?_
  simp only [List.set_cons_succ, List.set_cons_zero]
  refine s_let (Q := D K (.list (nrL0 ++ nrL1))) (μ1 := [(dk, DKo D0)]) (EO.frz (o_cat (e_var rfl) (EO.frz (o_lst (K := K) (ds := nrL1) (d_cons e_cS (d_cons e_cS (d_cons e_cS (d_cons e_cS (d_cons e_cS (d_cons e_cS (d_cons e_cS d_nil))))))) (by show 7 ≤ 100000; decide))) lr_D lr_D (by show 19 ≤ 100000; decide))) ?_
  simp only [List.set_cons_succ, List.set_cons_zero]
  refine s_let (Q := D K (.list ((nrL0 ++ nrL1) ++ nrL2))) (μ1 := [(dk, DKo D0)]) (EO.frz (o_cat (e_var rfl) (EO.frz (o_lst (K := K) (ds := nrL2) (d_cons e_cS (d_cons e_cS (d_cons e_cS (d_cons e_cS (d_cons e_cS (d_cons e_cS d_nil)))))) (by show 6 ≤ 100000; decide))) lr_D lr_D (by show 25 ≤ 100000; decide))) ?_
  simp only [List.set_cons_succ, List.set_cons_zero]
  refine s_let (Q := D K (.list (((nrL0 ++ nrL1) ++ nrL2) ++ nrL3))) (μ1 := [(dk, DKo D0)]) (EO.frz (o_cat (e_var rfl) (EO.frz (o_lst (K := K) (ds := nrL3) (d_cons e_cS (d_cons e_cS d_nil)) (by show 2 ≤ 100000; decide))) lr_D lr_D (by show 27 ≤ 100000; decide))) ?_
  simp only [List.set_cons_succ, List.set_cons_zero]
  refine s_let (Q := D K (.list ((((nrL0 ++ nrL1) ++ nrL2) ++ nrL3) ++ nrL4))) (μ1 := [(dk, DKo D0)]) (EO.frz (o_cat (e_var rfl) (EO.frz (o_lst (K := K) (ds := nrL4) (d_cons e_cS (d_cons e_cS (d_cons e_cS (d_cons e_cS (d_cons e_cS (d_cons e_cS (d_cons e_cS (d_cons e_cS (d_cons e_cS d_nil))))))))) (by show 9 ≤ 100000; decide))) lr_D lr_D (by show 36 ≤ 100000; decide))) ?_
  simp only [List.set_cons_succ, List.set_cons_zero]
  refine s_let (Q := D K (.list (((((nrL0 ++ nrL1) ++ nrL2) ++ nrL3) ++ nrL4) ++ nrL5))) (μ1 := [(dk, DKo D0)]) (EO.frz (o_cat (e_var rfl) (EO.frz (o_lst (K := K) (ds := nrL5) (d_cons e_cS (d_cons e_cS (d_cons e_cS (d_cons e_cS (d_cons e_cS (d_cons e_cS d_nil)))))) (by show 6 ≤ 100000; decide))) lr_D lr_D (by show 42 ≤ 100000; decide))) ?_
  simp only [List.set_cons_succ, List.set_cons_zero]
  refine s_let (Q := D K (.list ((((((nrL0 ++ nrL1) ++ nrL2) ++ nrL3) ++ nrL4) ++ nrL5) ++ nrL6))) (μ1 := [(dk, DKo D0)]) (EO.frz (o_cat (e_var rfl) (EO.frz (o_lst (K := K) (ds := nrL6) (d_cons e_cN (d_cons e_cI (d_cons e_cB (d_cons (EO.frz (o_lst (K := K) (ds := [.str "0 out"]) (d_cons e_cS d_nil) (by show 1 ≤ 100000; decide))) (d_cons (e_tup (ds := [.str "0 out"]) (d_cons e_cS d_nil) (by show 1 ≤ 1000; decide)) (d_cons (EO.frz (o_lst (K := K) (ds := []) d_nil (by decide))) (d_cons (EO.frz (o_lst (K := K) (ds := [.tuple [.int 0, .tuple [.str "out"]]]) (d_cons (e_tup (ds := [.int 0, .tuple [.str "out"]]) (d_cons e_cI (d_cons (e_tup (ds := [.str "out"]) (d_cons e_cS d_nil) (by show 1 ≤ 1000; decide)) d_nil)) (by show 2 ≤ 1000; decide)) d_nil) (by show 1 ≤ 100000; decide))) d_nil))))))) (by show 7 ≤ 100000; decide))) lr_D lr_D (by show 49 ≤ 100000; decide))) ?_
  simp only [List.set_cons_succ, List.set_cons_zero]
  have hall : ∀ d ∈ nrAll, OkV d := fun d hd => nr_ok (List.all_eq_true.mp nr_all d hd)
  have hlen := nr_len
  show S1 E _ [some (Av dk), some (D K (.list nrAll))] _ _
  generalize nrAll = xs at hall hlen ⊢
  have hx : ((xs.length : Nat) : Int) = 49 := by rw [hlen]; rfl
  have hd : 0 < ((xs.length : Nat) : Int) ∧ ((xs.length : Nat) : Int) < 2 ^ 200 := by rw [hx]; decide
  have i0 : 0 ≤ dv D0 ((xs.length : Nat) : Int) := dv_lo hd.1
  have i1 : dv D0 ((xs.length : Nat) : Int) < ((xs.length : Nat) : Int) := dv_hi hd.1
  have hi : (dv D0 ((xs.length : Nat) : Int)).toNat < xs.length := by omega
  refine s_ret (μ1 := [(dk, DKo (dn D0 ((xs.length : Nat) : Int)))]) (e_ixL (K := K) (d := xs[(dv D0 ((xs.length : Nat) : Int)).toNat]) (e_var (P := D K (.list xs)) rfl) (by exact e_draw (K := K) (Dk := D0) (rest := []) (a_cons (e_var rfl) (a_cons (e_len (e_var (P := D K (.list xs)) rfl) lr_D) a_nil)) hd) lr_D (atI_int i0 (List.getElem?_eq_getElem hi))) ?_
  exact backY_mk (R := nrR K) ⟨_, _, rfl, hall _ (List.getElem_mem hi), rfl⟩ (Imp.refl _) (List.Sublist.refl _)
theorem y__law_near {δ : En} {μ : Mp} {E : XK} {dk : Addr} {D0 : Deck} {rest : Mp} {tA : TA} (h : EA tA δ μ [Av dk] ((dk, DKo D0) :: rest)) :
    EY (tCall (sp__law_near K) [] E tA) δ μ (fun Q μ' => ∃ (d : PyData) (D1 : Deck), Q = D K d ∧ OkV d ∧ μ' = (dk, DKo D1) :: rest) :=
  (y_call (A := nrA K) (m := nrM) (pre := fun _ => True) (R := nrR K) (rest := rest) (dk, D0) h trivial).imp fun Q μ' z => by
    obtain ⟨_, ⟨d, D1, h1, h2, rfl⟩, rfl⟩ := z
    exact ⟨d, D1, h1, h2, rfl⟩
def sp__law_deed_texts (K : PySem.W.Frag)  : Sp := spD (α := Unit) (fun (_ : Unit) => []) (fun (_ : Unit) => True) (fun (_ : Unit) => D K (.list ((textsN 4).map tD)))
theorem ok__law_deed_texts (T : Txt K mg) : FnOk P w K mg base CX0 1 T.a__law_deed_texts T.fd__law_deed_texts [] (sp__law_deed_texts K ) := by
  refine fn_Y T.F__law_deed_texts sc__law_deed_texts (fun _ => rfl) fun cdv A outer s H E hr => ⟨_, (pss_cons (ps_set (i := 0) sc__law_deed_texts.nd rfl (Or.inl rfl) (pe_op (k_cat (K := K) rfl) (pe_lst (pa_cons (pe_str) (pa_cons (pe_str) (pa_cons (pe_str) (pa_cons (pe_str) (pa_cons (pe_str) pa_nil)))))) (pe_lc (own := [("d", 2)]) (g := gName 2) (tt := tYes) rfl sc__law_deed_texts.nd (pi_range2 (by rfl) T.n_range (pa_cons (pe_int) (pa_cons (pe_int) pa_nil))) (blkOk_by (N := ["texts", "j", "d"]) (sc := defScope s__law_deed_texts) (by decide +kernel)) (fun _ _ _ _ _ => pg_name (i := 2) sc__law_deed_texts.nd rfl (Or.inl rfl)) (fun _ _ _ _ _ => pts_nil) (fun _ _ _ _ _ => pe_op op_add_str (pe_str) (pe_callTy c_strI (by rfl) T.n_str (by decide +kernel) (pa_cons (pv 2) pa_nil)))))) (pss_cons (ps_for PassesOwn.never rfl (pi_range1 (by rfl) T.n_range (pa_cons (pe_int) pa_nil)) (pg_name (i := 1) sc__law_deed_texts.nd rfl (Or.inr rfl)) (pss_one (ps_set (i := 0) sc__law_deed_texts.nd rfl (Or.inl rfl) (pe_op (k_cat (K := K) rfl) (pe_op (k_cat (K := K) rfl) (pv 0) (pe_lst (pa_cons (pe_op op_add_str (pe_str) (pe_callTy c_strI (by rfl) T.n_str (by decide +kernel) (pa_cons (pv 1) pa_nil))) pa_nil))) (pe_lc (own := [("d", 2)]) (g := gName 2) (tt := tYes) rfl sc__law_deed_texts.nd (pi_range2 (by rfl) T.n_range (pa_cons (pe_int) (pa_cons (pe_int) pa_nil))) (blkOk_by (N := ["texts", "j", "d"]) (sc := defScope s__law_deed_texts) (by decide +kernel)) (fun _ _ _ _ _ => pg_name (i := 2) sc__law_deed_texts.nd rfl (Or.inl rfl)) (fun _ _ _ _ _ => pts_nil) (fun _ _ _ _ _ => pe_op op_add_str (pe_op op_add_str (pe_op op_add_str (pe_str) (pe_callTy c_strI (by rfl) T.n_str (by decide +kernel) (pa_cons (pv 1) pa_nil))) (pe_str)) (pe_callTy c_strI (by rfl) T.n_str (by decide +kernel) (pa_cons (pv 2) pa_nil)))))))) (pss_one (ps_ret (pv 0))))), ?_⟩
  rintro _ hp
  replace hp : True := hp
  show S1 E _ [none, none, none] [] { nx := fun _ μ => BackY (fun x Q μ => Q = (fun (_ : Unit) => D K (.list ((textsN 4).map tD))) x ∧ μ = []) () (D K .none) μ, rt := BackY (fun x Q μ => Q = (fun (_ : Unit) => D K (.list ((textsN 4).map tD))) x ∧ μ = []) () }
  try simp only [cx_K, cx_KX]
  have hn : ∀ {n : Nat}, n < 100 → (TL.numL n).length ≤ 2 := fun h => TL.numL_len (k := 2) (by decide) (by omega)
  have hstr : ∀ {δ : En} {k n : Nat}, n < 100 → δ[k]? = some (some (D K (.int (n : Int)))) → E1 (tCB rStrI (tCons (tVar k) tNil)) δ [] (D K (tD (TL.numL n))) [] := fun {δ} {k} {n} h hk => by
    have := e_strN (K := K) (e_var (μ := []) hk) (by omega : 0 ≤ (n : Int) ∧ (n : Int) < 10 ^ 18)
    rw [Int.toNat_natCast] at this
    exact this
  have hoff : (TL.tl (Str.ofString "off ")).length = 4 := by decide +kernel
  have hcopy : (TL.tl (Str.ofString "copy ")).length = 5 := by decide +kernel
  have hread : (TL.tl (Str.ofString "read ")).length = 5 := by decide +kernel
  have hrng : ∀ (f : Nat → List Nat), (((List.range ((12 : Int) - 1).toNat).map fun (x : Nat) => (1 : Int) + (x : Int)).map fun (x : Int) => tD (f x.toNat)) = ((List.range 11).map fun d => f (d + 1)).map tD := fun f => by
    rw [List.map_map, List.map_map]
    refine List.map_congr_left fun x _ => ?_
    show tD (f ((1 : Int) + (x : Int)).toNat) = tD (f (x + 1))
    congr 3
    omega
  refine s_let (Q := D K (.list ((textsN 0).map tD))) (μ1 := []) ?_ ?_
  · unfold textsN
    rw [List.map_append]
    refine EO.frz (o_cat (EO.frz (o_lst (K := K) (ds := [tD (TL.tl (Str.ofString "forget")), tD (TL.tl (Str.ofString "again")), tD (TL.tl (Str.ofString "swap")), tD (TL.tl (Str.ofString "out")), tD (TL.tl (Str.ofString "twice"))]) (d_cons e_cT (d_cons e_cT (d_cons e_cT (d_cons e_cT (d_cons e_cT d_nil))))) (by show 5 ≤ 100000; decide))) (EO.frz (?_ : EO K _ _ _ (((List.range 11).map fun d => TL.tl (Str.ofString "off ") ++ TL.numL (d + 1)).map tD) _)) lr_D lr_D (by simp))
    rw [← hrng (fun n => TL.tl (Str.ofString "off ") ++ TL.numL n)]
    refine o_mapR2 (K := K) (i := 1) (j := 12) (out := fun x => tD (TL.tl (Str.ofString "off ") ++ TL.numL x.toNat)) e_cI e_cI (by decide) fun x h1 h2 => ?_
    obtain ⟨n, rfl⟩ : ∃ n : Nat, x = (n : Int) := ⟨x.toNat, by omega⟩
    rw [Int.toNat_natCast]
    have hn1 : n < 100 := by omega
    exact e_addT e_cT (hstr hn1 rfl) (by have := hn hn1; omega)
  simp only [List.set_cons_succ, List.set_cons_zero]
  have hlen : ∀ j, (textsN j).length ≤ 16 + 12 * j := fun j => by
    induction j with
    | zero => unfold textsN; simp
    | succ j ih =>
      unfold textsN
      rw [List.length_append, List.length_append, List.length_map, List.length_range]
      show _ + (1 + 11) ≤ _
      omega
  refine s_seq (N := fun δ μ => Le δ [some (D K (.list ((textsN 4).map tD))), none, none] ∧ μ = []) ?_ ?_
  · refine s_for (fun j δ μ => Le δ [some (D K (.list ((textsN j).map tD))), none, none] ∧ μ = []) (i_rng1 (K := K) (i := 4) (μ' := []) e_cI (by decide)) ⟨by walk_at "le", rfl⟩ ?_ (fun _ _ h => h)
    rintro j δ' _ hj ⟨hle, rfl⟩
    have hj4 : j < 4 := hj
    have hl := hlen j
    have hj1 : j < 100 := by omega
    have nj := hn hj1
    refine ⟨_, [1], G1.le g_name hle, ?_⟩
    simp only [List.set_cons_succ, List.set_cons_zero]
    refine s_set (Q := D K (.list ((textsN (j + 1)).map tD))) (μ1 := []) ?_ ⟨by walk_at "le", rfl⟩
    have e : (textsN (j + 1)).map tD = ((textsN j).map tD ++ [tD (TL.tl (Str.ofString "copy ") ++ TL.numL j)]) ++ (((List.range 11).map fun d => (TL.tl (Str.ofString "read ") ++ TL.numL j) ++ [32] ++ TL.numL (d + 1)).map tD) := by
      rw [textsN, List.map_append, List.map_append]
      exact (List.append_assoc _ _ _).symm
    rw [e]
    refine EO.frz (o_cat (EO.frz (o_cat (e_var rfl) (EO.frz (o_lst (K := K) (ds := [tD (TL.tl (Str.ofString "copy ") ++ TL.numL j)]) (d_cons (e_addT e_cT (hstr hj1 rfl) (by omega)) d_nil) (by show 1 ≤ 100000; decide))) lr_D lr_D (by rw [List.length_map]; show _ + 1 ≤ 100000; omega))) (EO.frz (?_ : EO K _ _ _ (((List.range 11).map fun d => (TL.tl (Str.ofString "read ") ++ TL.numL j) ++ [32] ++ TL.numL (d + 1)).map tD) _)) lr_D lr_D (by simp only [List.length_append, List.length_map, List.length_range, List.length_cons, List.length_nil]; omega))
    rw [← hrng (fun n => (TL.tl (Str.ofString "read ") ++ TL.numL j) ++ [32] ++ TL.numL n)]
    refine o_mapR2 (K := K) (i := 1) (j := 12) (out := fun x => tD ((TL.tl (Str.ofString "read ") ++ TL.numL j) ++ [32] ++ TL.numL x.toNat)) e_cI e_cI (by decide) fun x h1 h2 => ?_
    obtain ⟨n, rfl⟩ : ∃ n : Nat, x = (n : Int) := ⟨x.toNat, by omega⟩
    rw [Int.toNat_natCast]
    have hn1 : n < 100 := by omega
    have n1 := hn hn1
    exact e_addT (e_addT (e_addT e_cT (hstr hj1 rfl) (by omega)) (e_cS (s := " ")) (by rw [List.length_append]; show _ + 1 ≤ 10000; omega)) (hstr hn1 rfl) (by rw [List.length_append, List.length_append]; show _ + 1 + _ ≤ 10000; omega)
  · rintro δ' _ ⟨hle, rfl⟩
    refine S1.le ?_ hle
    exact s_ret (e_var rfl) (back_D (Imp.refl _))
theorem e__law_deed_texts  {δ : En} {μ μ' : Mp} {E : XK}  {tA : TA} (h : EA tA δ μ [] μ') (hp : True) : E1 (tCall (sp__law_deed_texts K ) [] E tA) δ μ (D K (.list ((textsN 4).map tD))) μ' := e_callD () h hp
local macro_rules | `(tactic| walk_at "call") => `(tactic| ((with_reducible apply e__law_deed_texts); (· walk_at "ea"); (· trivial)))
def sp__law_number (K : PySem.W.Frag)  : Sp := spD (α := (List Nat)) (fun (l : (List Nat)) => [D K (tD l)]) (fun (l : (List Nat)) => l.length ≤ 3000 ∧ cD l ≤ 640) (fun (l : (List Nat)) => D K (.int (if numOk l = true then numVal l else -1)))
theorem ok__law_number (T : Txt K mg) : FnOk P w K mg base CX0 1 T.a__law_number T.fd__law_number ["word"] (sp__law_number K ) := by
  refine fn_Y T.F__law_number sc__law_number (fun _ => rfl) fun cdv A outer s H E hr => ⟨_, (pss_cons (ps_if (PW.pt (pw_or (pt_cmpR op_eq (pv 0) (pe_str) (nomark _)) (pw_or (pt_not (pt_val (pe_callB (k_all (K := K) rfl rfl) (by rfl) T.n_all (by decide +kernel) (pa_cons (pe_lc (own := [("char", 1)]) (g := gName 1) (tt := tYes) rfl sc__law_number.nd (pi_str (pv 0)) (blkOk_by (N := ["word", "char"]) (sc := defScope s__law_number) (by decide +kernel)) (fun _ _ _ _ _ => pg_name (i := 1) sc__law_number.nd rfl (Or.inl rfl)) (fun _ _ _ _ _ => pts_nil) (fun _ _ _ _ _ => pe_cmpR op_in_str (pv 1) (pe_str) (by with_unfolding_all rfl))) pa_nil)))) (pw_or1 (PW.pt (pw_and (pt_cmpR op_eq (pe_ix ix_str (pv 0) (pe_int) (fun _ _ => rfl)) (pe_str) (nomark _)) (pw_and1 (pt_cmpR op_ne (pv 0) (pe_str) (nomark _))))))))) (pss_one (ps_ret (pe_un un_neg (pe_int)))) (pss_nil)) (pss_one (ps_ret (pe_callTy call_int_str (by rfl) T.n_int (by decide +kernel) (pa_cons (pv 0) pa_nil))))), ?_⟩
  rintro l hp
  replace hp : l.length ≤ 3000 ∧ cD l ≤ 640 := hp
  show S1 E _ [some (D K (tD l)), none] [] { nx := fun _ μ => BackY (fun x Q μ => Q = (fun (l : (List Nat)) => D K (.int (if numOk l = true then numVal l else -1))) x ∧ μ = []) l (D K .none) μ, rt := BackY (fun x Q μ => Q = (fun (l : (List Nat)) => D K (.int (if numOk l = true then numVal l else -1))) x ∧ μ = []) l }
  try simp only [cx_K, cx_KX]
  obtain ⟨hl, hcd⟩ := hp
  have hno : ∀ {i : Int}, numOk l = false → i = -1 → PyData.int i = .int (if numOk l = true then numVal l else -1) := fun h e => by rw [h, e]; rfl
  have hneg : E1 (tUn (rU fun i => V.int (-i)) (tC (.int 1))) [some (D K (tD l)), none] [] (D K (.int (-1))) [] := e_neg e_cI
  cases hcr : l with
  | nil =>
    rw [hcr] at hno hneg
    refine s_ifr (a := decide (S ([] : List Nat) = Str.ofString "") || true) (μ1 := []) (t_or (b := true) (t_test (e_eqS (e_var rfl) e_cS)) fun h => ?_) (fun _ => ?_) (fun h => by simp at h)
    · have : S ([] : List Nat) = Str.ofString "" := rfl
      rw [decide_eq_true this] at h
      cases h
    · exact s_ret hneg (back_D (imp_D (hno rfl rfl)))
  | cons c r =>
    rw [hcr] at hno hl hcd hneg
    have hr : r.length ≤ 100000 := by simp at hl; omega
    have h1 : (decide (S [c] = S [48]) && !decide (S (c :: r) = S [48])) = (decide ((c :: r).head? = some 48) && !decide (c :: r = [48])) := by
      congr 1
      · rw [decide_eq_decide]
        constructor
        · intro h
          have := S_inj h
          cases this
          rfl
        · intro h
          cases h
          rfl
      · congr 1
        rw [decide_eq_decide]
        exact S_inj'
    have h0 : ¬ S (c :: r) = Str.ofString "" := fun h => by
      have := S_inj (show S (c :: r) = S [] from h)
      cases this
    have hall : E1 (tCB (rAll K) (tCons (tLc (iStr (tVar 0)) (gName 1) tYes (tOp rInS (tVar 1) (tC (.str "0123456789"))) [1]) tNil)) [some (D K (tD (c :: r))), none] [] (D K (.bool ((c :: r).all digC))) [] := by
      refine e_allO (K := K) (f := digC) (xs := c :: r) (o_mapW (K := K) (xs := c :: r) (X := fun i => D K (tD [(c :: r).getD i 0])) (en := fun x => D K (tD [x])) (out := fun x => .bool (digC x)) (i_str (K := K) (e_var rfl)) (fun i x hx => by rw [List.getD_eq_getElem?_getD, hx]; rfl) (by omega) fun x hx => ⟨_, g_name (by decide), ?_⟩)
      have hd : digC x = decide (x ∈ ([48, 49, 50, 51, 52, 53, 54, 55, 56, 57] : List Nat)) := by
        unfold digC
        rw [← Bool.decide_and, decide_eq_decide]
        simp
        omega
      rw [hd]
      exact e_inS (e_var rfl) (by rw [digits_S]; exact e_cS)
    refine s_ifr (a := decide (S (c :: r) = Str.ofString "") || (!((c :: r).all digC) || (decide (S [c] = S [48]) && !decide (S (c :: r) = S [48])))) (μ1 := []) (t_or (t_test (e_eqS (e_var rfl) e_cS)) fun _ => t_or (t_not (t_B (K := K) hall)) fun _ => t_and (t_test (e_eqS (e_ixS (l := r) (e_var rfl) e_cI (by omega)) e_cS)) fun _ => t_test (e_neS (e_var rfl) e_cS)) (fun h => ?_) (fun h => ?_)
    · rw [h1, decide_eq_false h0, Bool.false_or] at h
      refine s_ret hneg (back_D (imp_D (hno ?_ rfl)))
      unfold numOk
      revert h
      cases (c :: r).all digC <;> cases (decide ((c :: r).head? = some 48) && !decide (c :: r = [48])) <;> simp
    · rw [h1, decide_eq_false h0, Bool.false_or] at h
      have h2 : (c :: r).all digC = true ∧ numOk (c :: r) = true := by
        unfold numOk
        revert h
        cases (c :: r).all digC <;> cases (decide ((c :: r).head? = some 48) && !decide (c :: r = [48])) <;> simp
      refine s_ret (e_intS (e_var rfl) h2.1 (by simp) (by rw [← cD_all h2.1]; exact hcd)) (back_D (imp_D ?_))
      show PyData.int (numVal (c :: r)) = .int (if numOk (c :: r) = true then numVal (c :: r) else -1)
      rw [h2.2]
      rfl
theorem e__law_number  {δ : En} {μ μ' : Mp} {E : XK} {l : List Nat} {tA : TA} (h : EA tA δ μ [D K (tD l)] μ') (hp : l.length ≤ 3000 ∧ cD l ≤ 640) : E1 (tCall (sp__law_number K ) [] E tA) δ μ (D K (.int (if numOk l = true then numVal l else -1))) μ' := e_callD l h hp
local macro_rules | `(tactic| walk_at "call") => `(tactic| ((with_reducible apply e__law_number); (· walk_at "ea"); (· walk_at "sd")))
def sp__law_is_text (K : PySem.W.Frag)  : Sp := spD (α := (PyData)) (fun (d : (PyData)) => [D K d]) (fun (d : (PyData)) => OkV d) (fun (d : (PyData)) => D K (.bool ((txtP d).isSome)))
theorem ok__law_is_text (T : Txt K mg) : FnOk P w K mg base CX0 2 T.a__law_is_text T.fd__law_is_text ["value"] (sp__law_is_text K ) := by
  refine fn_Y T.F__law_is_text sc__law_is_text (fun _ => rfl) fun cdv A outer s H E hr => ⟨_, (pss_cons (ps_if (pt_not (pt_val (pe_callB (k_isi (K := K) rfl) (by rfl) T.n_isinstance (by decide +kernel) (pa_cons (pv 0) (pa_cons (pe_bltn (v := .ty "str") (by rfl) T.n_str (by decide +kernel) rfl) pa_nil))))) (pss_one (ps_ret (pe_bl))) (pss_nil)) (pss_cons (ps_if (pt_cmpR op_eq (pv 0) (pe_str) (nomark _)) (pss_one (ps_ret (pe_bl))) (pss_nil)) (pss_cons (ps_set (i := 1) sc__law_is_text.nd rfl (Or.inl rfl) (pe_call0 (ok__law_deed_texts T) (hr.mono (by decide)) (by rfl) T.m__law_deed_texts T.F__law_deed_texts.kp T.b__law_deed_texts .nil pass0)) (pss_cons (ps_set (i := 2) sc__law_is_text.nd rfl (Or.inl rfl) (pe_int)) (pss_cons (ps_for PassesOwn.never rfl (pi_list (pe_split (pv 0) (pe_str))) (pg_name (i := 3) sc__law_is_text.nd rfl (Or.inl rfl)) (pss_cons (ps_asg (pe_partition (pv 3) (pe_str)) (pg_tup (by rfl) (pgs_cons (pg_name (i := 4) sc__law_is_text.nd rfl (Or.inl rfl)) (pgs_cons (pg_name (i := 5) sc__law_is_text.nd rfl (Or.inl rfl)) (pgs_cons (pg_name (i := 6) sc__law_is_text.nd rfl (Or.inl rfl)) pgs_nil))))) (pss_cons (ps_if (PW.pt (pw_or (pt_cmpR op_lt (pe_call (ok__law_number T) (hr.mono (by decide)) (by rfl) T.m__law_number T.F__law_number.kp T.b__law_number .nil pass0 (pa_cons (pv 4) pa_nil)) (pv 2) (nomark _)) (pw_or1 (pt_cmpR (k_ninSq (K := K) rfl) (pv 6) (pv 1) (by with_unfolding_all rfl))))) (pss_one (ps_ret (pe_bl))) (pss_nil)) (pss_one (ps_set (i := 2) sc__law_is_text.nd rfl (Or.inl rfl) (pe_op op_add (pe_call (ok__law_number T) (hr.mono (by decide)) (by rfl) T.m__law_number T.F__law_number.kp T.b__law_number .nil pass0 (pa_cons (pv 4) pa_nil)) (pe_int))))))) (pss_one (ps_ret (pe_bl)))))))), ?_⟩
  rintro d hp
  replace hp : OkV d := hp
  show S1 E _ [some (D K d), none, none, none, none, none, none] [] { nx := fun _ μ => BackY (fun x Q μ => Q = (fun (d : (PyData)) => D K (.bool ((txtP d).isSome))) x ∧ μ = []) d (D K .none) μ, rt := BackY (fun x Q μ => Q = (fun (d : (PyData)) => D K (.bool ((txtP d).isSome))) x ∧ μ = []) d }
  try simp only [cx_K, cx_KX]
  cases hd : isTy d "str" with
  | false =>
    have hn : txtP d = none := by cases d <;> first | rfl | cases hd
    have hi := e_isi (K := K) (T := "str") (d := d) (e_var (k := 0) (δ := [some (D K d), none, none, none, none, none, none]) (μ := []) rfl) (.inr (.inr (.inr (.inr rfl))))
    rw [hd] at hi
    exact s_ifr (a := !false) (μ1 := []) (t_not (t_B (K := K) hi)) (fun _ => s_ret e_cB (back_D (imp_D (by show PyData.bool false = .bool (txtP d).isSome; rw [hn]; rfl)))) (fun h => by cases h)
  | true =>
    obtain ⟨x, rfl⟩ : ∃ x, d = .str x := by cases d <;> first | exact ⟨_, rfl⟩ | cases hd
    obtain ⟨hlen, hcd⟩ := hp x rfl
    obtain ⟨a, ha⟩ : ∃ a, a = TL.tl x := ⟨_, rfl⟩
    have hxa : x = S a := by rw [ha]
    rw [← ha] at hlen hcd
    have htx : txtP (.str x) = slipsP a := by rw [ha]; rfl
    have hback : ∀ {b : Bool}, b = (slipsP a).isSome → BackY (fun (d : PyData) Q μ => Q = D K (.bool (txtP d).isSome) ∧ μ = []) (.str x) (D K (.bool b)) [] := fun h => back_D (imp_D (by show _ = PyData.bool (txtP (.str x)).isSome; rw [htx, h]))
    clear htx ha hd
    subst hxa
    have z : 100000 ≤ sizeLine := by rw [sizeLine_eq]; decide
    refine s_ifr (a := !true) (μ1 := []) (t_not (t_B (K := K) (e_isi (K := K) (T := "str") (d := tD a) (e_var rfl) (.inr (.inr (.inr (.inr rfl))))))) (fun h => by cases h) (fun _ => ?_)
    refine s_ifr (a := decide (S a = Str.ofString "-")) (μ1 := []) (t_test (e_eqS (e_var rfl) e_cS)) (fun h => ?_) (fun h => ?_)
    · have h : a = [45] := S_inj (show S a = S [45] from of_decide_eq_true h)
      exact s_ret e_cB (hback (by unfold slipsP; rw [if_pos h]; rfl))
    have hne : a ≠ [45] := fun e => by
      have h := of_decide_eq_false h
      exact h (by rw [e]; rfl)
    have hsp : slipsP a = itemsP 0 (TL.spl [44, 32] 0 [] a) := by unfold slipsP; rw [if_neg hne]
    have hpl : ∀ p ∈ TL.spl [44, 32] 0 [] a, p.length ≤ 3000 ∧ cD p ≤ 640 := fun p hp => ⟨Nat.le_trans (len_part hp) hlen, Nat.le_trans (cD_part hp) hcd⟩
    refine s_let (Q := D K (.list ((textsN 4).map tD))) (μ1 := []) (by exact e__law_deed_texts a_nil trivial) ?_
    refine s_let (Q := D K (.int 0)) (μ1 := []) e_cI ?_
    simp only [List.set_cons_succ, List.set_cons_zero]
    have hsplit := split_any a
    generalize TL.spl [44, 32] 0 [] a = parts at hsp hpl hsplit
    rw [hsp] at hback
    refine s_seq (N := fun δ μ => (itemsP 0 parts).isSome = true ∧ μ = []) ?_ ?_
    · refine s_for (fun i δ μ => ∃ low : Int, 0 ≤ low ∧ (itemsP 0 parts).isSome = (itemsP low (parts.drop i)).isSome ∧ Le δ [some (D K (tD a)), some (D K (.list ((textsN 4).map tD))), some (D K (.int low)), none, none, none, none] ∧ μ = []) (i_list (K := K) (ds := (parts.map S).map .str) (μ' := []) (EO.frz (o_split (e_var rfl) e_cS (by rfl) (by rw [S_len]; omega) hsplit))) ⟨0, Int.le_refl _, rfl, by walk_at "le", rfl⟩ ?_ ?_
      · rintro i δ' _ hi ⟨low, hlo, hq, hle, rfl⟩
        rw [List.length_map, List.length_map] at hi
        have hx : ((parts.map S).map PyData.str)[i]? = some (tD parts[i]) := by simp [List.getElem?_eq_getElem hi]
        obtain ⟨hl, hlc⟩ := hpl parts[i] (List.getElem_mem hi)
        rw [List.drop_eq_getElem_cons hi] at hq
        refine ⟨_, [3], G1.le (by rw [hx]; exact g_name) hle, ?_⟩
        simp only [List.set_cons_succ, List.set_cons_zero, Option.getD_some]
        generalize parts[i] = l at hl hlc hq ⊢
        generalize parts.drop (i + 1) = rest at hq ⊢
        have hq : (itemsP 0 parts).isSome = ((itemP low l).bind fun s => (itemsP (s.1 + 1) rest).map fun r => s :: r).isSome := hq
        have hcl : (cutI l).1.length ≤ 3000 := by
          have := congrArg List.length (cutI_eq l)
          rw [List.length_append] at this
          omega
        have hcc := Nat.le_trans (cD_cut l) hlc
        refine s_let2 (Q := D K (.tuple [tD (cutI l).1, tD (cutI l).2.1, tD (cutI l).2.2])) (μ1 := []) (e_part (e_var rfl) e_cS (by rfl) (by rw [S_len]; omega) (part_any l)) (g_tup (vs := [4, 5, 6]) (ds := [tD (cutI l).1, tD (cutI l).2.1, tD (cutI l).2.2]) (g_cons (g_name (by simp)) (g_cons (g_name (by simp)) (g_cons (g_name (by simp)) g_nil))) rfl) ?_
        simp only [List.set_cons_succ, List.set_cons_zero]
        have hnum : ∀ {δ : En}, δ[4]? = some (some (D K (tD (cutI l).1))) → E1 (tCall (sp__law_number K) [] E0 (tCons (tVar 4) tNil)) δ [] (D K (.int (if numOk (cutI l).1 = true then numVal (cutI l).1 else -1))) [] := fun h => by exact e__law_number (l := (cutI l).1) (a_cons (e_var h) a_nil) ⟨hcl, hcc⟩
        refine s_ifr (a := decide ((if numOk (cutI l).1 = true then numVal (cutI l).1 else -1) < low) || !decide ((cutI l).2.2 ∈ textsN 4)) (μ1 := []) (t_or (t_test (e_lt (hnum rfl) (e_var rfl))) fun _ => t_test (e_notinL (e_var rfl) (e_var rfl))) (fun h => ?_) (fun h => ?_)
        · rw [texts_mem] at h
          have hnone : itemP low l = none := by
            cases hn : numOk (cutI l).1 with
            | false => exact itemP_none (.inl hn)
            | true =>
              rw [hn, if_pos rfl] at h
              cases hdd : deedOf (cutI l).2.2 with
              | none => exact itemP_none (.inr (.inr hdd))
              | some y =>
                rw [hdd] at h
                exact itemP_none (.inr (.inl (by simpa using h)))
          exact s_ret e_cB (hback (by rw [hq, hnone]; rfl))
        · rw [texts_mem] at h
          cases hn : numOk (cutI l).1 with
          | false =>
            rw [hn] at h
            simp at h
            omega
          | true =>
            rw [hn, if_pos rfl] at h
            cases hdd : deedOf (cutI l).2.2 with
            | none =>
              rw [hdd] at h
              simp at h
            | some y =>
              rw [hdd] at h
              have hlow : low ≤ numVal (cutI l).1 := by simpa using h
              rw [itemP_some hn hlow hdd] at hq
              refine s_set (Q := D K (.int ((if numOk (cutI l).1 = true then numVal (cutI l).1 else -1) + 1))) (μ1 := []) (e_add (hnum rfl) e_cI) ⟨numVal (cutI l).1 + 1, by omega, ?_, ?_, rfl⟩
              · rw [hq]
                show (Option.map _ _).isSome = _
                rw [Option.isSome_map]
              · rw [hn, if_pos rfl]
                walk_at "le"
      · rintro δ' _ ⟨low, _, hq, hle, rfl⟩
        rw [List.length_map, List.length_map, List.drop_length] at hq
        exact ⟨hq, rfl⟩
    · rintro δ' _ ⟨hq, rfl⟩
      exact s_ret e_cB (hback hq.symm)
theorem e__law_is_text  {δ : En} {μ μ' : Mp} {E : XK} {d : PyData} {tA : TA} (h : EA tA δ μ [D K d] μ') (hp : OkV d) : E1 (tCall (sp__law_is_text K ) [] E tA) δ μ (D K (.bool ((txtP d).isSome))) μ' := e_callD d h hp
local macro_rules | `(tactic| walk_at "call") => `(tactic| ((with_reducible apply e__law_is_text); (· walk_at "ea"); (· walk_at "sd")))
def sp_deeds_of (K : PySem.W.Frag)  : Sp := spD (α := (Int) × (Int)) (fun (x : (Int) × (Int)) => match x with | (b, r) => [D K (.int b), D K (.int r)]) (fun (x : (Int) × (Int)) => match x with | (b, r) => (2 ≤ b ∧ b ≤ 12) ∧ (1 ≤ r ∧ r ≤ 4)) (fun (x : (Int) × (Int)) => match x with | (b, r) => D K (.list ((allDeeds b r).map deedD)))
theorem ok_deeds_of (T : Txt K mg) : FnOk P w K mg base CX0 1 T.a_deeds_of T.fd_deeds_of ["base", "rows"] (sp_deeds_of K ) := by
  refine fn_Y T.F_deeds_of sc_deeds_of (fun _ => rfl) fun cdv A outer s H E hr => ⟨_, (pss_cons (ps_setLc (i := 2) (own := [("by", 5)]) (g := gName 5) (tt := tYes) rfl sc_deeds_of.nd rfl rfl (sw_true rfl rfl rfl (by decide +kernel)) (pi_range2 (by rfl) T.n_range (pa_cons (pe_int) (pa_cons (pv 0) pa_nil))) (blkOk_by (N := ["base", "rows", "offs", "reads", "copies", "by", "row"]) (sc := defScope s_deeds_of) (by decide +kernel)) (fun _ _ _ _ _ => pg_name (i := 5) sc_deeds_of.nd rfl (Or.inl rfl)) (fun _ _ _ _ _ => pts_nil) (fun _ _ _ _ _ => pe_tup (pa_cons (pe_str) (pa_cons (pv 5) pa_nil)))) (pss_cons (ps_setLc2 (i := 3) (own := [("row", 6), ("by", 5)]) (vs1 := [5]) (g := gName 6) (tt := tYes) (g1 := gName 5) (tt1 := tYes) rfl sc_deeds_of.nd rfl rfl (sw_true rfl rfl rfl (by decide +kernel)) (pi_range1 (by rfl) T.n_range (pa_cons (pv 1) pa_nil)) (blkOk_by (N := ["base", "rows", "offs", "reads", "copies", "by", "row"]) (sc := defScope s_deeds_of) (by decide +kernel)) (by decide) (fun _ _ _ _ _ => pg_name (i := 6) sc_deeds_of.nd rfl (Or.inl rfl)) (fun _ _ _ _ _ => pts_nil) (fun _ _ _ _ _ => pi_range2 (by rfl) T.n_range (pa_cons (pe_int) (pa_cons (pv 0) pa_nil))) (fun _ _ _ _ _ => pg_name (i := 5) sc_deeds_of.nd rfl (Or.inl rfl)) (fun _ _ _ _ _ => pts_nil) (fun _ _ _ _ _ => pe_tup (pa_cons (pe_str) (pa_cons (pv 6) (pa_cons (pv 5) pa_nil)))) ) (pss_cons (ps_setLc (i := 4) (own := [("row", 6)]) (g := gName 6) (tt := tYes) rfl sc_deeds_of.nd rfl rfl (sw_true rfl rfl rfl (by decide +kernel)) (pi_range1 (by rfl) T.n_range (pa_cons (pv 1) pa_nil)) (blkOk_by (N := ["base", "rows", "offs", "reads", "copies", "by", "row"]) (sc := defScope s_deeds_of) (by decide +kernel)) (fun _ _ _ _ _ => pg_name (i := 6) sc_deeds_of.nd rfl (Or.inl rfl)) (fun _ _ _ _ _ => pts_nil) (fun _ _ _ _ _ => pe_tup (pa_cons (pe_str) (pa_cons (pv 6) pa_nil)))) (pss_one (ps_ret (pe_lst (pa_cons (pe_tup (pa_cons (pe_str) pa_nil)) (pa_cons (pe_tup (pa_cons (pe_str) pa_nil)) (StX.pa_star (pv 2) (StX.pa_star (pv 3) (StX.pa_star (pv 4) (pa_cons (pe_tup (pa_cons (pe_str) pa_nil)) (pa_cons (pe_tup (pa_cons (pe_str) pa_nil)) (pa_cons (pe_tup (pa_cons (pe_str) pa_nil)) pa_nil)))))))))))))), ?_⟩
  rintro ⟨b, r⟩ hp
  replace hp : (2 ≤ b ∧ b ≤ 12) ∧ (1 ≤ r ∧ r ≤ 4) := hp
  show S1 E _ [some (D K (.int b)), some (D K (.int r)), none, none, none, none, none] [] { nx := fun _ μ => BackY (fun x Q μ => Q = (fun (x : (Int) × (Int)) => match x with | (b, r) => D K (.list ((allDeeds b r).map deedD))) x ∧ μ = []) (b, r) (D K .none) μ, rt := BackY (fun x Q μ => Q = (fun (x : (Int) × (Int)) => match x with | (b, r) => D K (.list ((allDeeds b r).map deedD))) x ∧ μ = []) (b, r) }
  try simp only [cx_K, cx_KX]
  obtain ⟨hb, hr'⟩ := hp
  refine s_let (Q := D K (.list ((offsOf b).map deedD))) (μ1 := []) ?_ ?_
  · unfold offsOf
    rw [List.map_map]
    refine EO.frz (o_mapR2 (by walk_at "ev") (by walk_at "ev") (by omega) fun x _ _ => ?_)
    exact e_tup (d_cons (by walk_at "ev") (d_cons (by walk_at "ev") d_nil)) (by show 2 ≤ 1000; decide)
  refine s_let (Q := D K (.list ((readsOf b r).map deedD))) (μ1 := []) ?_ ?_
  · unfold readsOf
    rw [List.map_flatMap]
    refine EO.frz (o_lc2 (xs := List.range r.toNat) (en := fun x => D K (.int (x : Int))) (X := fun k => D K (.int (k : Int))) (N := 20) (by rw [List.length_range]; exact i_rng1 (by walk_at "ev") (by omega)) (fun i x h => ?_) (fun x hx => ?_) ?_ fun x hx => ?_)
    · rw [List.getElem?_eq_some_iff] at h
      obtain ⟨_, h⟩ := h
      rw [← h, List.getElem_range]
    · simp
      omega
    · simp
      omega
    · refine ⟨_, g_name, fun k => D K (.int (1 + (k : Int))), ?_, fun j y hy => ⟨_, g_name, ?_⟩⟩
      · simp only [List.length_map, List.length_range]
        exact i_rng2 (by walk_at "ev") (by walk_at "ev") (by omega)
      · have hj : j < (b - 1).toNat := by
          have := (List.getElem?_eq_some_iff.mp hy).1
          simpa using this
        have : y = deedD (.read (x : Int) (1 + (j : Int))) := by
          rw [List.getElem?_map, List.getElem?_map, List.getElem?_map, List.getElem?_range hj] at hy
          exact (Option.some.inj hy).symm
        subst this
        exact e_tup (d_cons (by walk_at "ev") (d_cons (by walk_at "ev") (d_cons (by walk_at "ev") d_nil))) (by show 3 ≤ 1000; decide)
  refine s_let (Q := D K (.list ((copiesOf r).map deedD))) (μ1 := []) ?_ ?_
  · unfold copiesOf
    rw [List.map_map]
    refine EO.frz (o_mapR (by walk_at "ev") (by omega) fun x _ => ?_)
    exact e_tup (d_cons (by walk_at "ev") (d_cons (by walk_at "ev") d_nil)) (by show 2 ≤ 1000; decide)
  refine s_ret (EO.frz (o_lst (by walk_at "ed") ?_)) (back_D (imp_D ?_))
  · have h1 : r.toNat * (b - 1).toNat ≤ 4 * 11 := Nat.mul_le_mul (by omega) (by omega)
    simp only [List.length_cons, List.length_append, List.length_map, offsOf_len, readsOf_len, copiesOf_len, List.length_nil]
    omega
  · simp only [allDeeds, List.map_append]
    rfl
theorem e_deeds_of  {δ : En} {μ μ' : Mp} {E : XK} {b : Int} {r : Int} {tA : TA} (h : EA tA δ μ [D K (.int b), D K (.int r)] μ') (hp : (2 ≤ b ∧ b ≤ 12) ∧ (1 ≤ r ∧ r ≤ 4)) : E1 (tCall (sp_deeds_of K ) [] E tA) δ μ (D K (.list ((allDeeds b r).map deedD))) μ' := e_callD (b, r) h hp
local macro_rules | `(tactic| walk_at "call") => `(tactic| ((with_reducible apply e_deeds_of); (· walk_at "ea"); (· walk_at "sd")))
def sp_show_integer (K : PySem.W.Frag)  : Sp := spD (α := (Int)) (fun (n : (Int)) => [D K (.int n)]) (fun (n : (Int)) => 0 ≤ n ∧ (TL.numL n.toNat).length ≤ 700) (fun (n : (Int)) => D K (tD (TL.numL n.toNat)))
theorem ok_show_integer (T : Txt K mg) : FnOk P w K mg base CX0 1 T.a_show_integer T.fd_show_integer ["number"] (sp_show_integer K ) := by
  refine fn_Y T.F_show_integer sc_show_integer (fun _ => rfl) fun cdv A outer s H E hr => ⟨_, (pss_cons (ps_set (i := 1) sc_show_integer.nd rfl (Or.inl rfl) (pe_lst pa_nil)) (pss_cons (ps_while PassesOwn.never (pt_cmpR op_ge (pv 0) (pe_glob (v := .int 1000000000) (by rfl) T.m_PIECE ⟨_, rfl⟩) (nomark _)) (pss_cons (ps_expr (pe_bm PySem.F.plainAttrs_list PySem.F.slot_list_append PySem.F.type_list_append mt_append (pv 1) (pa_cons (pe_m1 PySem.F.slot_str_zfill PySem.F.type_str_zfill mt_zfill (pe_callTy c_strI (by rfl) T.n_str (by decide +kernel) (pa_cons (pe_op op_mod (pv 0) (pe_glob (v := .int 1000000000) (by rfl) T.m_PIECE ⟨_, rfl⟩)) pa_nil)) (pe_int)) pa_nil))) (pss_one (ps_set (i := 0) sc_show_integer.nd rfl (Or.inl rfl) (pe_op op_fdivW (pv 0) (pe_glob (v := .int 1000000000) (by rfl) T.m_PIECE ⟨_, rfl⟩)))))) (pss_cons (ps_expr (pe_bm PySem.F.plainAttrs_list PySem.F.slot_list_append PySem.F.type_list_append mt_append (pv 1) (pa_cons (pe_callTy c_strI (by rfl) T.n_str (by decide +kernel) (pa_cons (pv 0) pa_nil)) pa_nil))) (pss_one (ps_ret (pe_join (pe_str) (pe_revL (pv 1)))))))), ?_⟩
  rintro n hp
  replace hp : 0 ≤ n ∧ (TL.numL n.toNat).length ≤ 700 := hp
  show S1 E _ [some (D K (.int n)), none] [] { nx := fun _ μ => BackY (fun x Q μ => Q = (fun (n : (Int)) => D K (tD (TL.numL n.toNat))) x ∧ μ = []) n (D K .none) μ, rt := BackY (fun x Q μ => Q = (fun (n : (Int)) => D K (tD (TL.numL n.toNat))) x ∧ μ = []) n }
  try simp only [cx_K, cx_KX]
  obtain ⟨h0, h1⟩ := hp
  walk_at "Own"
  rename_i sa
  simp only [List.set_cons_succ, List.set_cons_zero]
  have hjoin : ∀ {δ : En} {ls : List (List Nat)}, δ[1]? = some (some (Av sa)) → ls.length ≤ 1000 → (∀ l ∈ ls, l.length ≤ 20) → E1 (tM1 (rJoin K) (tC (.str "")) (tRevL K (tVar 1))) δ [(sa, OL K (ls.map tD))] (D K (tD (TL.joinL [] ls.reverse))) [(sa, OL K (ls.map tD))] := fun {δ} {ls} h1 h2 h3 =>
    e_joinS (K := K) (a := []) (N := 1000) (B := 20) (e_cS (s := "")) (EO.frz (o_revM (K := K) (enc := tD) (xs := ls) (e_var (P := Av sa) h1) (lr_O 0 rfl))) lr_D (by rw [List.length_reverse]; exact h2) (fun l hl => h3 l (List.mem_reverse.mp hl)) (by decide)
  refine s_seq (N := fun δ μ => ∃ (k : Int) (ls : List (List Nat)), (0 ≤ k ∧ k < 10 ^ 9) ∧ ls.length ≤ 700 ∧ (∀ l ∈ ls, l.length ≤ 20) ∧ (ls ++ [TL.numL k.toNat]).reverse.flatten = TL.numL n.toNat ∧ Le δ [some (D K (.int k)), some (Av sa)] ∧ μ = [(sa, OL K (ls.map tD))]) ?_ ?_
  · refine s_while (fun m δ μ => ∃ (k : Int) (ls : List (List Nat)), (0 ≤ k ∧ k.toNat = m) ∧ (∀ l ∈ ls, l.length = 9) ∧ (ls ++ [TL.numL k.toNat]).reverse.flatten = TL.numL n.toNat ∧ Le δ [some (D K (.int k)), some (Av sa)] ∧ μ = [(sa, OL K (ls.map tD))]) n.toNat ⟨n, [], ⟨h0, rfl⟩, fun _ h => by (cases h), by simp, by walk_at "le", rfl⟩ ?_
    rintro m δ' _ ⟨k, ls, ⟨hk0, hkm⟩, hl9, he, hle, rfl⟩
    have hlen : ls.length ≤ 700 := by
      have h2 : (ls.reverse.flatten).length ≤ (TL.numL n.toNat).length := by
        rw [← he, List.reverse_append, List.flatten_append, List.length_append]
        omega
      have h3 : ls.length ≤ (ls.reverse.flatten).length := by
        rw [List.length_flatten]
        have : ∀ xs : List (List Nat), (∀ l ∈ xs, l.length = 9) → xs.length ≤ (xs.map List.length).sum := fun xs => by
          induction xs with
          | nil => exact fun _ => Nat.zero_le _
          | cons x xs ih =>
            intro h
            have h1 := h x (List.mem_cons_self ..)
            have h2 := ih fun l hl => h l (List.mem_cons_of_mem _ hl)
            rw [List.map_cons, List.sum_cons, List.length_cons]
            omega
        have h4 := this ls.reverse fun l hl => hl9 l (List.mem_reverse.mp hl)
        rw [List.length_reverse] at h4
        exact h4
      omega
    refine ⟨decide (1000000000 ≤ k), _, T1.le (t_test (e_ge (e_var rfl) e_cI)) hle, fun h => ?_, fun h => ?_⟩
    · have h := of_decide_eq_true h
      refine S1.le ?_ hle
      have hm : 0 ≤ k % 1000000000 ∧ k % 1000000000 < 10 ^ 18 := by omega
      have hz := zfill_num (m := (k % 1000000000).toNat) (by omega)
      have hml : (ls.map tD).length ≤ 100000 := by rw [List.length_map]; omega
      refine s_do (e_append (K := K) 0 (te := tVar 1) (ad := sa) (d := tD (padL 9 (k % 1000000000).toNat)) (μ1 := [(sa, OL K (ls.map tD))]) (ds := ls.map tD) (e_var rfl) (by
        have := e_zfill (K := K) (i := 9) (e_strN (e_mod (i := k) (j := 1000000000) (e_var (δ := [some (D K (.int k)), some (Av sa)]) (k := 0) (μ := [(sa, OL K (ls.map tD))]) rfl) e_cI (by decide)) hm) e_cI (by decide)
        rw [hz] at this
        exact this) ⟨0, _, rfl⟩ rfl hml) ?_
      simp only [List.set_cons_succ, List.set_cons_zero]
      have hap : ls.map tD ++ [tD (padL 9 (k % 1000000000).toNat)] = (ls ++ [padL 9 (k % 1000000000).toNat]).map tD := by rw [List.map_append]; rfl
      rw [hap]
      refine s_set (Q := D K (.int (k / 1000000000))) (μ1 := [(sa, OL K ((ls ++ [padL 9 (k % 1000000000).toNat]).map tD))]) (e_div (e_var rfl) e_cI ⟨by decide, by decide⟩) ⟨(k / 1000000000).toNat, by omega, k / 1000000000, _, ⟨by omega, rfl⟩, ?_, ?_, by walk_at "le", rfl⟩
      · intro l hl
        rcases List.mem_append.mp hl with hl | hl
        · exact hl9 l hl
        · obtain rfl := List.mem_singleton.mp hl
          exact padL_len _ _
      · rw [← he, big_num hk0 h]
        simp
    · have h := of_decide_eq_false h
      refine ⟨k, ls, by omega, hlen, fun l hl => by rw [hl9 l hl]; decide, he, hle, rfl⟩
  · rintro δ' _ ⟨k, ls, hk, hl1, hl2, he, hle, rfl⟩
    refine S1.le ?_ hle
    have hk18 : 0 ≤ k ∧ k < 10 ^ 18 := by omega
    refine s_do (e_append (K := K) 0 (te := tVar 1) (ad := sa) (d := tD (TL.numL k.toNat)) (μ1 := [(sa, OL K (ls.map tD))]) (ds := ls.map tD) (e_var rfl) (e_strN (e_var rfl) hk18) ⟨0, _, rfl⟩ rfl (by rw [List.length_map]; omega)) ?_
    simp only [List.set_cons_succ, List.set_cons_zero]
    have hap : ls.map tD ++ [tD (TL.numL k.toNat)] = (ls ++ [TL.numL k.toNat]).map tD := by rw [List.map_append]; rfl
    rw [hap]
    refine s_ret (Q := D K (tD (TL.numL n.toNat))) (μ1 := [(sa, OL K ((ls ++ [TL.numL k.toNat]).map tD))]) ?_ (backY_mk ⟨rfl, rfl⟩ (Imp.refl _) (List.nil_sublist _))
    rw [← he, ← joinL_nil]
    refine hjoin rfl ?_ ?_
    · rw [List.length_append]
      show ls.length + 1 ≤ 1000
      omega
    · intro l hl
      rcases List.mem_append.mp hl with hl | hl
      · exact hl2 l hl
      · obtain rfl := List.mem_singleton.mp hl
        exact Nat.le_trans (numL_18 hk18) (by decide)
theorem e_show_integer  {δ : En} {μ μ' : Mp} {E : XK} {n : Int} {tA : TA} (h : EA tA δ μ [D K (.int n)] μ') (hp : 0 ≤ n ∧ (TL.numL n.toNat).length ≤ 700) : E1 (tCall (sp_show_integer K ) [] E tA) δ μ (D K (tD (TL.numL n.toNat))) μ' := e_callD n h hp
local macro_rules | `(tactic| walk_at "call") => `(tactic| ((with_reducible apply e_show_integer); (· walk_at "ea"); (· walk_at "sd")))
def sp_show_deed (K : PySem.W.Frag)  : Sp := spD (α := (Deed)) (fun (x : (Deed)) => [D K (deedD x)]) (fun (x : (Deed)) => x ∈ allDeeds 12 4) (fun (x : (Deed)) => D K (tD (dtL x)))
theorem ok_show_deed (T : Txt K mg) : FnOk P w K mg base CX0 2 T.a_show_deed T.fd_show_deed ["deed"] (sp_show_deed K ) := by
  refine fn_Y T.F_show_deed sc_show_deed (fun _ => rfl) fun cdv A outer s H E hr => ⟨_, (pss_one (ps_ret (pe_join (pe_str) (pe_op (k_cat (K := K) rfl) (pe_lst (pa_cons (pe_ix (k_ixT (K := K) rfl) (pv 0) (pe_int) (fun _ _ => rfl)) pa_nil)) (pe_lc (own := [("number", 1)]) (g := gName 1) (tt := tYes) rfl sc_show_deed.nd (pi_tup (pe_slice (k_slA (K := K) rfl) (pv 0) (po_some (pe_int)) po_none)) (blkOk_by (N := ["deed", "number"]) (sc := defScope s_show_deed) (by decide +kernel)) (fun _ _ _ _ _ => pg_name (i := 1) sc_show_deed.nd rfl (Or.inl rfl)) (fun _ _ _ _ _ => pts_nil) (fun _ _ _ _ _ => pe_call (ok_show_integer T) (hr.mono (by decide)) (by rfl) T.m_show_integer T.F_show_integer.kp T.b_show_integer .nil pass0 (pa_cons (pv 1) pa_nil))))))), ?_⟩
  rintro x hp
  replace hp : x ∈ allDeeds 12 4 := hp
  show S1 E _ [some (D K (deedD x)), none] [] { nx := fun _ μ => BackY (fun x Q μ => Q = (fun (x : (Deed)) => D K (tD (dtL x))) x ∧ μ = []) x (D K .none) μ, rt := BackY (fun x Q μ => Q = (fun (x : (Deed)) => D K (tD (dtL x))) x ∧ μ = []) x }
  try simp only [cx_K, cx_KX]
  have hx := hp
  obtain ⟨h1, h2, h3⟩ := dp_facts hx
  have hal : (Deed.args x).length ≤ 2 := by
    have : (dpL x).length = (Deed.args x).length + 1 := by unfold dpL; rw [List.length_cons, List.length_map]
    omega
  have hw : EO K (tOp (rCatS K) (tLst (tCons (tOp (rIxT K) (tVar 0) (tC (.int 0))) tNil)) (tLc (iTup K (tSl (rSlA K) (tVar 0) (tPart (tC (.int 1))) tNoPart)) (gName 1) tYes (tCall (sp_show_integer K) [] E0 (tCons (tVar 1) tNil)) [1])) [some (D K (deedD x)), none] [] ((dpL x).map tD) [] := by
    rw [dp_strs]
    refine o_cat (EO.frz (o_lst (K := K) (ds := [PyData.str x.word]) (d_cons (e_word (x := x) (e_var rfl)) d_nil) (by show 1 ≤ 100000; decide))) (EO.frz (o_mapT (K := K) (enc := .int) (out := fun i => tD (TL.numL i.toNat)) (xs := Deed.args x) ?_ (by omega) fun i hi => ?_)) lr_D lr_D (by rw [List.length_map]; show 1 + _ ≤ 100000; omega)
    · rw [← cut_args]
      exact e_slT (e_var rfl) (y_some (K := K) e_cI) y_none
    · have := h1 i hi
      exact e_show_integer (n := i) (a_cons (e_var rfl) a_nil) ⟨by omega, Nat.le_trans (numL_18 (i := i) (by omega)) (by decide)⟩
  exact s_ret (e_joinS (K := K) (a := [32]) (N := 3) (B := 10) (e_cS (s := " ")) hw.frz lr_D h3 h2 (by decide)) (back_D (Imp.refl _))
theorem e_show_deed  {δ : En} {μ μ' : Mp} {E : XK} {x : Deed} {tA : TA} (h : EA tA δ μ [D K (deedD x)] μ') (hp : x ∈ allDeeds 12 4) : E1 (tCall (sp_show_deed K ) [] E tA) δ μ (D K (tD (dtL x))) μ' := e_callD x h hp
local macro_rules | `(tactic| walk_at "call") => `(tactic| ((with_reducible apply e_show_deed); (· walk_at "ea"); (· walk_at "sd")))
def sp_read_deed (K : PySem.W.Frag)  : Sp := spD (α := (List Nat)) (fun (t : (List Nat)) => [D K (tD t)]) (fun (t : (List Nat)) => True) (fun (t : (List Nat)) => D K (odD (deedOf t)))
theorem ok_read_deed (T : Txt K mg) : FnOk P w K mg base CX0 3 T.a_read_deed T.fd_read_deed ["text"] (sp_read_deed K ) := by
  refine fn_Y T.F_read_deed sc_read_deed (fun _ => rfl) fun cdv A outer s H E hr => ⟨_, (pss_cons (ps_for PassesOwn.never rfl (pi_list (pe_call (ok_deeds_of T) (hr.mono (by decide)) (by rfl) T.m_deeds_of T.F_deeds_of.kp T.b_deeds_of .nil pass0 (pa_cons (pe_glob (v := .int 12) (by rfl) T.m_MOST_BASE ⟨_, rfl⟩) (pa_cons (pe_glob (v := .int 4) (by rfl) T.m_MOST_ROWS ⟨_, rfl⟩) pa_nil)))) (pg_name (i := 1) sc_read_deed.nd rfl (Or.inl rfl)) (pss_one (ps_if (pt_cmpR op_eq (pe_call (ok_show_deed T) (hr.mono (by decide)) (by rfl) T.m_show_deed T.F_show_deed.kp T.b_show_deed .nil pass0 (pa_cons (pv 1) pa_nil)) (pv 0) (nomark _)) (pss_one (ps_ret (pv 1))) (pss_nil)))) (pss_one (ps_ret (pe_non)))), ?_⟩
  rintro t hp
  replace hp : True := hp
  show S1 E _ [some (D K (tD t)), none] [] { nx := fun _ μ => BackY (fun x Q μ => Q = (fun (t : (List Nat)) => D K (odD (deedOf t))) x ∧ μ = []) t (D K .none) μ, rt := BackY (fun x Q μ => Q = (fun (t : (List Nat)) => D K (odD (deedOf t))) x ∧ μ = []) t }
  try simp only [cx_K, cx_KX]
  have hall := allDeeds_len (b := 12) (r := 4) (by decide) (by decide)
  refine s_seq (N := fun δ μ => deedOf t = none ∧ μ = []) ?_ ?_
  · refine s_for (fun i δ μ => Le δ [some (D K (tD t)), none] ∧ μ = [] ∧ ∀ x ∈ (allDeeds 12 4).take i, dtL x ≠ t) (i_list (K := K) (ds := (allDeeds 12 4).map deedD) (μ' := []) (by exact e_deeds_of (b := 12) (r := 4) (a_cons e_cI (a_cons e_cI a_nil)) (by decide))) ⟨by walk_at "le", rfl, fun _ h => by cases h⟩ ?_ ?_
    · rintro i δ' _ hi ⟨hle, rfl, hm⟩
      rw [List.length_map] at hi
      have hxi : (allDeeds 12 4)[i]? = some (allDeeds 12 4)[i] := List.getElem?_eq_getElem hi
      have hyi := List.getElem_mem hi
      have htake : (allDeeds 12 4).take (i + 1) = (allDeeds 12 4).take i ++ [(allDeeds 12 4)[i]] := by rw [List.take_add_one, hxi]; rfl
      refine ⟨_, [1], G1.le (by rw [getD_map hxi]; exact g_name) hle, ?_⟩
      simp only [List.set_cons_succ, List.set_cons_zero]
      rw [htake]
      generalize (allDeeds 12 4)[i] = y at hyi ⊢
      refine s_if (a := decide (S (dtL y) = S t)) (μ1 := []) (t_test (e_eqS (by exact e_show_deed (x := y) (a_cons (e_var rfl) a_nil) hyi) (e_var rfl))) (fun h => ?_) (fun h => ?_)
      · have h := S_inj (of_decide_eq_true h)
        refine s_ret (e_var rfl) (back_D (imp_D ?_))
        show deedD y = odD (deedOf t)
        rw [deedOf_at hyi h]
      · refine s_next ⟨by walk_at "le", rfl, fun x hx => ?_⟩
        rcases List.mem_append.mp hx with hx | hx
        · exact hm x hx
        · obtain rfl := List.mem_singleton.mp hx
          intro e
          rw [e] at h
          simp at h
    · rintro δ' _ ⟨_, rfl, hm⟩
      rw [List.length_map, List.take_length] at hm
      refine ⟨?_, rfl⟩
      cases hq : deedOf t with
      | none => rfl
      | some x =>
        obtain ⟨h1, h2⟩ := deedOf_some hq
        exact absurd h2 (hm x h1)
  · rintro δ' _ ⟨hq, rfl⟩
    refine s_ret e_cN (back_D (imp_D ?_))
    show PyData.none = odD (deedOf t)
    rw [hq]
theorem e_read_deed  {δ : En} {μ μ' : Mp} {E : XK} {t : List Nat} {tA : TA} (h : EA tA δ μ [D K (tD t)] μ') (hp : True) : E1 (tCall (sp_read_deed K ) [] E tA) δ μ (D K (odD (deedOf t))) μ' := e_callD t h hp
local macro_rules | `(tactic| walk_at "call") => `(tactic| ((with_reducible apply e_read_deed); (· walk_at "ea"); (· trivial)))
def sp_read_integer (K : PySem.W.Frag)  : Sp := spD (α := (List Nat)) (fun (l : (List Nat)) => [D K (tD l)]) (fun (l : (List Nat)) => l.length ≤ 100000) (fun (l : (List Nat)) => D K (if numOk l = true then .int (numVal l) else .none))
theorem ok_read_integer (T : Txt K mg) : FnOk P w K mg base CX0 1 T.a_read_integer T.fd_read_integer ["word"] (sp_read_integer K ) := by
  refine fn_Y T.F_read_integer sc_read_integer (fun _ => rfl) fun cdv A outer s H E hr => ⟨_, (pss_cons (ps_if (PW.pt (pw_or (pt_not (pt_truth (pv 0) (by intro _; rfl))) (pw_or1 (PW.pt (pw_and (pt_cmpR op_eq (pe_ix ix_str (pv 0) (pe_int) (fun _ _ => rfl)) (pe_str) (nomark _)) (pw_and1 (pt_cmpR op_ne (pv 0) (pe_str) (nomark _)))))))) (pss_one (ps_ret (pe_non))) (pss_nil)) (pss_cons (ps_set (i := 1) sc_read_integer.nd rfl (Or.inl rfl) (pe_int)) (pss_cons (ps_for PassesOwn.never rfl (pi_str (pv 0)) (pg_name (i := 2) sc_read_integer.nd rfl (Or.inl rfl)) (pss_cons (ps_if (pt_cmpR op_notin_str (pv 2) (pe_glob (v := .str "0123456789") (by rfl) T.m_DIGITS ⟨_, rfl⟩) (by with_unfolding_all rfl)) (pss_one (ps_ret (pe_non))) (pss_nil)) (pss_one (ps_set (i := 1) sc_read_integer.nd rfl (Or.inl rfl) (pe_op op_add (pe_op op_mul (pv 1) (pe_int)) (pe_m1 PySem.F.slot_str_index PySem.F.type_str_index mt_sindex (pe_glob (v := .str "0123456789") (by rfl) T.m_DIGITS ⟨_, rfl⟩) (pv 2))))))) (pss_one (ps_ret (pv 1)))))), ?_⟩
  rintro l hp
  replace hp : l.length ≤ 100000 := hp
  show S1 E _ [some (D K (tD l)), none, none] [] { nx := fun _ μ => BackY (fun x Q μ => Q = (fun (l : (List Nat)) => D K (if numOk l = true then .int (numVal l) else .none)) x ∧ μ = []) l (D K .none) μ, rt := BackY (fun x Q μ => Q = (fun (l : (List Nat)) => D K (if numOk l = true then .int (numVal l) else .none)) x ∧ μ = []) l }
  try simp only [cx_K, cx_KX]
  have hl := hp
  have hno : ∀ {d : PyData}, numOk l = false → d = .none → d = (if numOk l = true then .int (numVal l) else .none) := fun h e => by rw [h, e]; rfl
  cases hcr : l with
  | nil =>
    rw [hcr] at hno
    refine s_ifr (a := !(!([] : List Nat).isEmpty)) (μ1 := []) (t_or (b := true) (a := true) (t_not (t_truS (l := []) (e_var rfl) (by decide))) fun h => by cases h) (fun _ => ?_) (fun h => by cases h)
    exact s_ret e_cN (back_D (imp_D (hno rfl rfl)))
  | cons c r =>
    have hr : r.length ≤ 100000 := by rw [hcr] at hl; simp at hl; omega
    rw [hcr] at hno
    have h1 : (decide (S [c] = S [48]) && !decide (S (c :: r) = S [48])) = (decide ((c :: r).head? = some 48) && !decide (c :: r = [48])) := by
      congr 1
      · rw [decide_eq_decide]
        constructor
        · intro h
          have := S_inj h
          cases this
          rfl
        · intro h
          cases h
          rfl
      · congr 1
        rw [decide_eq_decide]
        exact S_inj'
    refine s_ifr (a := !(!(c :: r).isEmpty) || (decide (S [c] = S [48]) && !decide (S (c :: r) = S [48]))) (μ1 := []) (t_or (t_not (t_truS (e_var rfl) (by simp; omega))) fun _ => t_and (t_test (e_eqS (e_ixS (l := r) (e_var rfl) e_cI (by omega)) e_cS)) fun _ => t_test (e_neS (e_var rfl) e_cS)) (fun h => ?_) (fun h => ?_)
    · rw [h1] at h
      refine s_ret e_cN (back_D (imp_D (hno ?_ rfl)))
      have h : (decide ((c :: r).head? = some 48) && !decide (c :: r = [48])) = true := by simpa using h
      unfold numOk
      rw [h]
      simp
    have h : (decide ((c :: r).head? = some 48) && !decide (c :: r = [48])) = false := by rw [h1] at h; simpa using h
    have hok : numOk (c :: r) = (c :: r).all digC := by
      unfold numOk
      rw [h]
      simp
    generalize c :: r = l at hno hok ⊢
    clear h h1 hr hcr hl
    refine s_let (Q := D K (.int 0)) (μ1 := []) e_cI ?_
    simp only [List.set_cons_succ, List.set_cons_zero]
    refine s_seq (N := fun δ μ => l.all digC = true ∧ Le δ [none, some (D K (.int (numVal l))), none] ∧ μ = []) ?_ ?_
    · refine s_for (fun i δ μ => (l.take i).all digC = true ∧ Le δ [some (D K (tD l)), some (D K (.int (numVal (l.take i)))), none] ∧ μ = []) (i_str (K := K) (e_var rfl)) ⟨rfl, by walk_at "le", rfl⟩ ?_ ?_
      · rintro i δ' _ hi ⟨hall, hle, rfl⟩
        refine ⟨_, [2], G1.le g_name hle, ?_⟩
        simp only [List.set_cons_succ, List.set_cons_zero]
        have hx : l.getD i 0 = l[i] := by simp [List.getD, List.getElem?_eq_getElem hi]
        rw [hx]
        have htake : l.take (i + 1) = l.take i ++ [l[i]] := by rw [List.take_add_one, List.getElem?_eq_getElem hi]; rfl
        have hmem : decide (l[i] ∈ ([48, 49, 50, 51, 52, 53, 54, 55, 56, 57] : List Nat)) = digC l[i] := by
          unfold digC
          rw [← Bool.decide_and, decide_eq_decide]
          simp
          omega
        refine s_ifr (a := !decide (l[i] ∈ ([48, 49, 50, 51, 52, 53, 54, 55, 56, 57] : List Nat))) (μ1 := []) (t_test (e_notinS (e_var rfl) (by rw [digits_S]; exact e_cS))) (fun h => ?_) (fun h => ?_)
        · rw [hmem] at h
          have h : digC l[i] = false := by simpa using h
          refine s_ret e_cN (back_D (imp_D (hno ?_ rfl)))
          rw [hok]
          cases hq : l.all digC with
          | false => rfl
          | true =>
            have := List.all_eq_true.mp hq l[i] (List.getElem_mem hi)
            rw [h] at this
            cases this
        · rw [hmem] at h
          have h : digC l[i] = true := by simpa using h
          have hd := dig_all (l := [l[i]]) (by rw [List.all_cons, h]; rfl) l[i] (List.mem_singleton.mpr rfl)
          have hocc := one_digit ⟨l[i] - 48, by omega⟩
          have he : 48 + (l[i] - 48) = l[i] := by omega
          simp only [he] at hocc
          have hstep : numVal (l.take (i + 1)) = numVal (l.take i) * 10 + ((l[i] - 48 : Nat) : Int) := by
            unfold numVal
            rw [htake, List.foldl_append]
            show _ * 10 + ((l[i] : Int) - 48) = _
            omega
          have hall2 : (l.take (i + 1)).all digC = true := by rw [htake, List.all_append, hall, List.all_cons, h]; rfl
          rw [hstep]
          generalize numVal (l.take i) = w
          exact s_set (Q := D K (.int (w * 10 + ((l[i] - 48 : Nat) : Int)))) (μ1 := []) (e_add (e_mul (e_var rfl) e_cI (.inr (by decide))) (e_sidx e_cS (e_var rfl) hocc)) ⟨hall2, by walk_at "le", rfl⟩
      · rintro δ' _ ⟨hall, hle, rfl⟩
        rw [List.take_length] at hall hle
        exact ⟨hall, hle.trans (by walk_at "le"), rfl⟩
    · rintro δ' _ ⟨hall, hle, rfl⟩
      refine S1.le ?_ hle
      refine s_ret (e_var rfl) (back_D (imp_D ?_))
      show PyData.int (numVal l) = (if numOk l = true then .int (numVal l) else .none)
      rw [hok, hall]
      rfl
theorem e_read_integer  {δ : En} {μ μ' : Mp} {E : XK} {l : List Nat} {tA : TA} (h : EA tA δ μ [D K (tD l)] μ') (hp : l.length ≤ 100000) : E1 (tCall (sp_read_integer K ) [] E tA) δ μ (D K (if numOk l = true then .int (numVal l) else .none)) μ' := e_callD l h hp
local macro_rules | `(tactic| walk_at "call") => `(tactic| ((with_reducible apply e_read_integer); (· walk_at "ea"); (· walk_at "sd")))
def sp_read_slips (K : PySem.W.Frag) (c_InvalidText : Addr) : Sp := spX (α := PyData) (fun d => [D K d]) (fun _ => []) TxOk (rsR K) (rsX c_InvalidText)
theorem ok_read_slips (T : Txt K mg) : FnOk P w K mg base (L2.CX P w) 4 T.a_read_slips T.fd_read_slips ["text"] (sp_read_slips K T.c_InvalidText) := by
  refine fn_YX T.F_read_slips sc_read_slips (fun _ => rfl) fun cdv A outer s H E hr => ⟨_, (pss_cons (ps_if (pt_not (pt_val (pe_callB (k_isi (K := K) rfl) (by rfl) T.n_isinstance (by decide +kernel) (pa_cons (pv 0) (pa_cons (pe_bltn (v := .ty "str") (by rfl) T.n_str (by decide +kernel) rfl) pa_nil))))) (pss_one (ps_raise rfl (takes_of rfl rfl rfl rfl) (pmk_own PySem.F.excBase_ValueError T.x_InvalidText T.m_InvalidText T.xk_InvalidText (raises_own T.xb_InvalidText T.xt_InvalidText) rfl))) (pss_nil)) (pss_cons (ps_if (pt_cmpR op_eq (pv 0) (pe_str) (nomark _)) (pss_one (ps_ret (pe_lst pa_nil))) (pss_nil)) (pss_cons (ps_set (i := 1) sc_read_slips.nd rfl (Or.inl rfl) (pe_lst pa_nil)) (pss_cons (ps_set (i := 2) sc_read_slips.nd rfl (Or.inl rfl) (pe_int)) (pss_cons (ps_for (passes_of rfl) rfl (pi_list (pe_split (pv 0) (pe_str))) (pg_name (i := 3) sc_read_slips.nd rfl (Or.inl rfl)) (pss_cons (ps_asg (pe_partition (pv 3) (pe_str)) (pg_tup (by rfl) (pgs_cons (pg_name (i := 4) sc_read_slips.nd rfl (Or.inl rfl)) (pgs_cons (pg_name (i := 5) sc_read_slips.nd rfl (Or.inl rfl)) (pgs_cons (pg_name (i := 6) sc_read_slips.nd rfl (Or.inl rfl)) pgs_nil))))) (pss_cons (ps_set (i := 7) sc_read_slips.nd rfl (Or.inl rfl) (pe_call (ok_read_integer T) (hr.mono (by decide)) (by rfl) T.m_read_integer T.F_read_integer.kp T.b_read_integer .nil pass0 (pa_cons (pv 4) pa_nil))) (pss_cons (ps_set (i := 8) sc_read_slips.nd rfl (Or.inl rfl) (pe_call (ok_read_deed T) (hr.mono (by decide)) (by rfl) T.m_read_deed T.F_read_deed.kp T.b_read_deed .nil pass0 (pa_cons (pv 6) pa_nil))) (pss_cons (ps_if (PW.pt (pw_or (pt_cmp (pc_isN (pv 7)) rfl) (pw_or (pt_cmpR op_lt (pv 7) (pv 2) (nomark _)) (pw_or1 (pt_cmp (pc_isN (pv 8)) rfl))))) (pss_one (ps_raise rfl (takes_of rfl rfl rfl rfl) (pmk_own PySem.F.excBase_ValueError T.x_InvalidText T.m_InvalidText T.xk_InvalidText (raises_own T.xb_InvalidText T.xt_InvalidText) rfl))) (pss_nil)) (pss_cons (ps_expr (pe_bm PySem.F.plainAttrs_list PySem.F.slot_list_append PySem.F.type_list_append mt_append (pv 1) (pa_cons (pe_tup (pa_cons (pv 7) (pa_cons (pv 8) pa_nil))) pa_nil))) (pss_one (ps_set (i := 2) sc_read_slips.nd rfl (Or.inl rfl) (pe_op op_add (pv 7) (pe_int)))))))))) (pss_one (ps_ret (pv 1)))))))), ?_⟩
  rintro d hp
  show S1 E _ [some (D K d), none, none, none, none, none, none, none, none] [] { nx := fun _ μ => BackY (rsR K) d (D K .none) μ, rt := BackY (rsR K) d, ex := BackX (rsX T.c_InvalidText) d }
  try simp only [cx_K, cx_KX]
  have hraise : ∀ {μ : Mp}, txtP d = none → BackX (rsX T.c_InvalidText) d (.ref T.c_InvalidText) none μ := fun h => ⟨_, ⟨h, rfl, rfl, rfl⟩, List.nil_sublist _⟩
  cases hd : isTy d "str" with
  | false =>
    have hn : txtP d = none := by cases d <;> first | rfl | cases hd
    have hi := e_isi (K := K) (T := "str") (d := d) (e_var (k := 0) (δ := [some (D K d), none, none, none, none, none, none, none, none]) (μ := []) rfl) (.inr (.inr (.inr (.inr rfl))))
    rw [hd] at hi
    exact s_ifr (a := !false) (μ1 := []) (t_not (t_B (K := K) hi)) (fun _ => s_raise (hraise hn)) (fun h => by cases h)
  | true =>
    obtain ⟨x, rfl⟩ : ∃ x, d = .str x := by cases d <;> first | exact ⟨_, rfl⟩ | cases hd
    have hlen := hp x rfl
    obtain ⟨a, ha⟩ : ∃ a, a = TL.tl x := ⟨_, rfl⟩
    have hxa : x = S a := by rw [ha]
    rw [← ha] at hlen
    have htx : txtP (.str x) = slipsP a := by rw [ha]; rfl
    rw [htx] at hraise
    have hback : ∀ {sl : List (Int × Deed)} {μ : Mp}, slipsP a = some sl → BackY (rsR K) (.str x) (D K (.list (sl.map slipD))) μ := fun {sl} {μ} h => backY_mk (R := rsR K) ⟨sl, by rw [htx, h], rfl, rfl⟩ (Imp.refl _) (List.nil_sublist _)
    clear htx ha hp hd
    subst hxa
    have z : 100000 ≤ sizeLine := by rw [sizeLine_eq]; decide
    refine s_ifr (a := !true) (μ1 := []) (t_not (t_B (K := K) (e_isi (K := K) (T := "str") (d := tD a) (e_var rfl) (.inr (.inr (.inr (.inr rfl))))))) (fun h => by cases h) (fun _ => ?_)
    refine s_ifr (a := decide (S a = Str.ofString "-")) (μ1 := []) (t_test (e_eqS (e_var rfl) e_cS)) (fun h => ?_) (fun h => ?_)
    · have h : a = [45] := S_inj (show S a = S [45] from of_decide_eq_true h)
      exact s_ret (Q := D K (.list [])) (EO.frz (o_lst (K := K) d_nil (by decide))) (hback (sl := []) (by unfold slipsP; rw [if_pos h]))
    have hne : a ≠ [45] := fun e => by
      have h := of_decide_eq_false h
      exact h (by rw [e]; rfl)
    have hsp : slipsP a = itemsP 0 (TL.spl [44, 32] 0 [] a) := by unfold slipsP; rw [if_neg hne]
    have hcnt := count_parts (a := a)
    have hpl : ∀ p ∈ TL.spl [44, 32] 0 [] a, p.length ≤ 3000 := fun p hp => Nat.le_trans (len_part hp) hlen
    refine s_own (o_lst (K := K) d_nil (by decide)) fun sa => ?_
    refine s_let (Q := D K (.int 0)) (μ1 := [(sa, OL K [])]) e_cI ?_
    simp only [List.set_cons_succ, List.set_cons_zero, List.nil_append]
    have hsplit := split_any a
    generalize TL.spl [44, 32] 0 [] a = parts at hsp hcnt hpl hsplit
    refine s_seq (N := fun δ μ => ∃ pre : List (Int × Deed), slipsP a = some pre ∧ Le δ [none, some (Av sa), none, none, none, none, none, none, none] ∧ μ = [(sa, OL K (pre.map slipD))]) ?_ ?_
    · refine s_for (fun i δ μ => ∃ (low : Int) (pre : List (Int × Deed)), slipsP a = (itemsP low (parts.drop i)).map (fun r => pre ++ r) ∧ pre.length = i ∧ Le δ [some (D K (tD a)), some (Av sa), some (D K (.int low)), none, none, none, none, none, none] ∧ μ = [(sa, OL K (pre.map slipD))]) (i_list (K := K) (ds := (parts.map S).map .str) (μ' := [(sa, OL K [])]) (EO.frz (o_split (e_var rfl) e_cS (by rfl) (by rw [S_len]; omega) hsplit))) ⟨0, [], by rw [hsp, List.drop_zero]; cases itemsP 0 parts <;> rfl, rfl, by walk_at "le", rfl⟩ ?_ ?_
      · rintro i δ' _ hi ⟨low, pre, hq, hpre, hle, rfl⟩
        rw [List.length_map, List.length_map] at hi
        have hx : ((parts.map S).map PyData.str)[i]? = some (tD parts[i]) := by simp [List.getElem?_eq_getElem hi]
        have hl := hpl parts[i] (List.getElem_mem hi)
        rw [List.drop_eq_getElem_cons hi] at hq
        refine ⟨_, [3], G1.le (by rw [hx]; exact g_name) hle, ?_⟩
        simp only [List.set_cons_succ, List.set_cons_zero, Option.getD_some]
        generalize parts[i] = l at hl hq ⊢
        generalize parts.drop (i + 1) = rest at hq ⊢
        have hq : slipsP a = ((itemP low l).bind fun s => (itemsP (s.1 + 1) rest).map fun r => s :: r).map (fun r => pre ++ r) := hq
        have hnone : itemP low l = none → slipsP a = none := fun h => by rw [hq, h]; rfl
        have hcl : (cutI l).1.length ≤ 3000 := by
          have := congrArg List.length (cutI_eq l)
          rw [List.length_append] at this
          omega
        refine s_let2 (Q := D K (.tuple [tD (cutI l).1, tD (cutI l).2.1, tD (cutI l).2.2])) (μ1 := [(sa, OL K (pre.map slipD))]) (e_part (e_var rfl) e_cS (by rfl) (by rw [S_len]; omega) (part_any l)) (g_tup (vs := [4, 5, 6]) (ds := [tD (cutI l).1, tD (cutI l).2.1, tD (cutI l).2.2]) (g_cons (g_name (by simp)) (g_cons (g_name (by simp)) (g_cons (g_name (by simp)) g_nil))) rfl) ?_
        simp only [List.set_cons_succ, List.set_cons_zero]
        refine s_let (Q := D K (if numOk (cutI l).1 = true then .int (numVal (cutI l).1) else .none)) (μ1 := [(sa, OL K (pre.map slipD))]) (by exact e_read_integer (l := (cutI l).1) (a_cons (e_var rfl) a_nil) (by omega)) ?_
        refine s_let (Q := D K (odD (deedOf (cutI l).2.2))) (μ1 := [(sa, OL K (pre.map slipD))]) (by exact e_read_deed (t := (cutI l).2.2) (a_cons (e_var rfl) a_nil) trivial) ?_
        simp only [List.set_cons_succ, List.set_cons_zero]
        cases hn : numOk (cutI l).1 with
        | false =>
          exact s_ifr (a := true) (μ1 := [(sa, OL K (pre.map slipD))]) (t_or (a := true) (b := true) (t_B (K := K) (e_isN (d := .none) (e_var rfl))) fun h => by cases h) (fun _ => s_raise (hraise (hnone (itemP_none (.inl hn))))) (fun h => by cases h)
        | true =>
          cases hdd : deedOf (cutI l).2.2 with
          | none =>
            refine s_ifr (a := false || (decide (numVal (cutI l).1 < low) || true)) (μ1 := [(sa, OL K (pre.map slipD))]) (t_or (t_B (K := K) (e_isN (d := .int (numVal (cutI l).1)) (e_var rfl))) fun _ => t_or (t_test (e_lt (e_var rfl) (e_var rfl))) fun _ => t_B (K := K) (e_isN (d := .none) (e_var rfl))) (fun _ => s_raise (hraise (hnone (itemP_none (.inr (.inr hdd)))))) (fun h => by simp at h)
          | some y =>
            refine s_ifr (a := false || (decide (numVal (cutI l).1 < low) || false)) (μ1 := [(sa, OL K (pre.map slipD))]) (t_or (t_B (K := K) (e_isN (d := .int (numVal (cutI l).1)) (e_var rfl))) fun _ => t_or (t_test (e_lt (e_var rfl) (e_var rfl))) fun _ => t_B (K := K) (e_isN (d := deedD y) (e_var rfl))) (fun h => s_raise (hraise (hnone (itemP_none (.inr (.inl (by simpa using h))))))) (fun h => ?_)
            have hlow : low ≤ numVal (cutI l).1 := by simpa using h
            rw [itemP_some hn hlow hdd] at hq
            refine s_do (e_append (K := K) 0 (te := tVar 1) (ad := sa) (d := slipD (numVal (cutI l).1, y)) (μ1 := [(sa, OL K (pre.map slipD))]) (ds := pre.map slipD) (e_var rfl) (e_tup (ds := [.int (numVal (cutI l).1), deedD y]) (d_cons (e_var rfl) (d_cons (e_var rfl) d_nil)) (by show 2 ≤ 1000; decide)) ⟨0, _, rfl⟩ rfl (by rw [List.length_map]; omega)) ?_
            simp only [List.set_cons_succ, List.set_cons_zero]
            refine s_set (Q := D K (.int (numVal (cutI l).1 + 1))) (μ1 := [(sa, OL K (pre.map slipD ++ [slipD (numVal (cutI l).1, y)]))]) (e_add (e_var rfl) e_cI) ⟨numVal (cutI l).1 + 1, pre ++ [(numVal (cutI l).1, y)], ?_, ?_, by walk_at "le", ?_⟩
            · rw [hq]
              show Option.map _ (Option.map _ _) = _
              rw [Option.map_map]
              congr 1
              funext r
              simp
            · rw [List.length_append, hpre]
              rfl
            · rw [List.map_append]
              rfl
      · rintro δ' _ ⟨low, pre, hq, _, hle, rfl⟩
        rw [List.length_map, List.length_map, List.drop_length] at hq
        exact ⟨pre, by rw [hq]; show some (pre ++ []) = _; rw [List.append_nil], hle.trans (by walk_at "le"), rfl⟩
    · rintro δ' _ ⟨pre, hq, hle, rfl⟩
      refine S1.le ?_ hle
      refine s_frz (μa := []) (μb := []) 1 rfl ?_
      exact s_ret (e_var rfl) (hback hq)
theorem eS_read_slips {c_InvalidText : Addr} {K : PySem.W.Frag} {EE : L2.St → XK} {tA : TA} {δ : En} {μ μ2 : Mp} {d : PyData} {sl : List (Int × Deed)} (h : EA tA δ μ [D K d] μ2) (hp : TxOk d) (hk : txtP d = some sl) : E1 (tCallS (sp_read_slips K c_InvalidText) EE tA) δ μ (D K (.list (sl.map slipD))) μ2 :=
  ((y_callS (A := fun d => [D K d]) (m := fun _ => []) (pre := TxOk) (Rx := rsR K) (Xc := rsX c_InvalidText) (rest := μ2) d h hp fun c dd μ z => by have z1 : txtP d = none := z.1; rw [hk] at z1; cases z1).imp fun Q μ' r => by
    obtain ⟨_, ⟨sl', h1, rfl, rfl⟩, rfl⟩ := r
    rw [hk] at h1
    cases h1
    exact ⟨rfl, rfl⟩).one
theorem es_read_slips {c_InvalidText : Addr} {K : PySem.W.Frag} {EE : L2.St → XK} {tA : TA} {δ : En} {μ μ2 : Mp} {d : PyData} (h : EA tA δ μ [D K d] μ2) (hp : TxOk d) (hk : txtP d = none) : ES EE (tCallS (sp_read_slips K c_InvalidText) EE tA) δ μ (Er c_InvalidText μ2) :=
  (es_callS (A := fun d => [D K d]) (m := fun _ => []) (pre := TxOk) (Rx := rsR K) (Xc := rsX c_InvalidText) (rest := μ2) d h hp fun Q μ z => by obtain ⟨sl, z1, _⟩ := z; rw [hk] at z1; cases z1).imp fun c dd μ' r => by
    obtain ⟨_, ⟨_, rfl, rfl, rfl⟩, rfl⟩ := r
    exact ⟨rfl, rfl, rfl⟩
def sp__law_read (K : PySem.W.Frag) (c_InvalidText : Addr) : Sp := spD (α := (PyData)) (fun (d : (PyData)) => [D K d]) (fun (d : (PyData)) => OkV d) (fun (d : (PyData)) => D K (.list (match txtP d with | some sl => [.list (sl.map slipD)] | none => [.bool true, .bool true, .bool false])))
theorem ok__law_read (T : Txt K mg) : FnOk P w K mg base CX0 5 T.a__law_read T.fd__law_read ["value"] (sp__law_read K T.c_InvalidText) := by
  refine fn_Y T.F__law_read sc__law_read (fun _ => rfl) fun cdv A outer s H E hr => ⟨_, (pss_cons (ps_set (i := 1) sc__law_read.nd rfl (Or.inl rfl) (pe_lst pa_nil)) (pss_cons (ps_try_as (i := 2) rfl rfl sc__law_read.nd rfl rfl ⟨by rfl, by decide, .inl T.m_SlipError⟩ takes0 (fun W pn xe tk _ => pss_one (ps_set (i := 1) sc__law_read.nd rfl (Or.inl rfl) (pe_lst (pa_cons (pe_callS (ok_read_slips T) (hr.mono (by decide)) (by rfl) T.m_read_slips T.F_read_slips.kp T.b_read_slips (fun σ => passAt tk σ) (pa_cons (pv 0) pa_nil)) pa_nil)))) (fun a oe cls d pn hz hf => pss_cons (ps_set (i := 3) sc__law_read.nd rfl (Or.inl rfl) (pe_callB (k_isCT (K := K) rfl hz hf) (by rfl) T.n_isinstance (by decide +kernel) (pa_cons (pv 2) (pa_cons (pe_tup (pa_cons (pe_glob (v := .ref T.c_InvalidSheet) (by rfl) T.m_InvalidSheet rfl) (pa_cons (pe_glob (v := .ref T.c_InvalidCommand) (by rfl) T.m_InvalidCommand rfl) (pa_cons (pe_glob (v := .ref T.c_InvalidKind) (by rfl) T.m_InvalidKind rfl) (pa_cons (pe_glob (v := .ref T.c_InvalidLot) (by rfl) T.m_InvalidLot rfl) (pa_cons (pe_glob (v := .ref T.c_InvalidSlips) (by rfl) T.m_InvalidSlips rfl) (pa_cons (pe_glob (v := .ref T.c_InvalidColumn) (by rfl) T.m_InvalidColumn rfl) pa_nil))))))) pa_nil)))) (pss_cons (ps_set (i := 3) sc__law_read.nd rfl (Or.inl rfl) (pe_or (pv 3) (pe_one (pe_callB (k_isCT (K := K) rfl hz hf) (by rfl) T.n_isinstance (by decide +kernel) (pa_cons (pv 2) (pa_cons (pe_tup (pa_cons (pe_glob (v := .ref T.c_NotAlike) (by rfl) T.m_NotAlike rfl) (pa_cons (pe_glob (v := .ref T.c_NotPossible) (by rfl) T.m_NotPossible rfl) (pa_cons (pe_glob (v := .ref T.c_NotReady) (by rfl) T.m_NotReady rfl) (pa_cons (pe_glob (v := .ref T.c_NothingToUndo) (by rfl) T.m_NothingToUndo rfl) (pa_cons (pe_glob (v := .ref T.c_TooMany) (by rfl) T.m_TooMany rfl) (pa_cons (pe_glob (v := .ref T.c_Waits) (by rfl) T.m_Waits rfl) pa_nil))))))) pa_nil)))))) (pss_one (ps_set (i := 1) sc__law_read.nd rfl (Or.inl rfl) (pe_lst (pa_cons (pe_callB (k_isC (K := K) rfl hz hf) (by rfl) T.n_isinstance (by decide +kernel) (pa_cons (pv 2) (pa_cons (pe_glob (v := .ref T.c_InvalidText) (by rfl) T.m_InvalidText rfl) pa_nil))) (pa_cons (pe_callB (k_isC (K := K) rfl hz hf) (by rfl) T.n_isinstance (by decide +kernel) (pa_cons (pv 2) (pa_cons (pe_bltn (v := .ty "ValueError") (by rfl) T.n_ValueError (by decide +kernel) rfl) pa_nil))) (pa_cons (pv 3) pa_nil))))))))) (pss_one (ps_ret (pv 1))))), ?_⟩
  rintro d hp
  replace hp : OkV d := hp
  show S1 E _ [some (D K d), none, none, none] [] { nx := fun _ μ => BackY (fun x Q μ => Q = (fun (d : (PyData)) => D K (.list (match txtP d with | some sl => [.list (sl.map slipD)] | none => [.bool true, .bool true, .bool false]))) x ∧ μ = []) d (D K .none) μ, rt := BackY (fun x Q μ => Q = (fun (d : (PyData)) => D K (.list (match txtP d with | some sl => [.list (sl.map slipD)] | none => [.bool true, .bool true, .bool false]))) x ∧ μ = []) d }
  try simp only [cx_K, cx_KX]
  have hok : TxOk d := fun s h => (hp s h).1
  refine s_let (Q := D K (.list [])) (μ1 := []) (by walk_at "ev") ?_
  simp only [List.set_cons_succ, List.set_cons_zero]
  cases hk : txtP d with
  | some sl =>
    refine s_seq (N := fun δ μ => Le δ [none, some (D K (.list [.list (sl.map slipD)])), none, none] ∧ μ = []) (s_tryN (K := K) (i := 2) (c := .ref T.c_SlipError) (tw := fun W => tAsg (tLst (tCons (tCallS (sp_read_slips K T.c_InvalidText) (WE W) (tCons (tVar 0) tNil)) tNil)) (gName 1)) (fun W => ?_)) ?_
    · exact ss_set (Q := D K (.list [.list (sl.map slipD)])) (μ1 := []) (EO.frz (o_lst (K := K) (d_cons (eS_read_slips (a_cons (e_var rfl) a_nil) hok hk) d_nil) (by show 1 ≤ 100000; decide))) ⟨by walk_at "le", rfl⟩
    · rintro δ' _ ⟨hle, rfl⟩
      refine S1.le ?_ hle
      exact s_ret (P := _) (μ1 := []) (e_var rfl) (back_D (imp_D (by show _ = PyData.list (match txtP d with | some sl => [.list (sl.map slipD)] | none => [.bool true, .bool true, .bool false]); rw [hk])))
  | none =>
    refine s_seq (N := fun δ μ => Le δ [none, some (D K (.list [.bool true, .bool true, .bool false])), none, none] ∧ μ = []) (s_tryE (K := K) (i := 2) (c := .ref T.c_SlipError) (tw := fun W => tAsg (tLst (tCons (tCallS (sp_read_slips K T.c_InvalidText) (WE W) (tCons (tVar 0) tNil)) tNil)) (gName 1)) (C := T.c_InvalidText) (μ1 := []) (fun W => ?_) T.em_InvalidText_SlipError (fun a => ?_)) ?_
    · exact ss_setR (es_lst1 (es_read_slips (a_cons (e_var rfl) a_nil) hok hk))
    · refine s_let (Q := D K (.bool false)) (μ1 := []) (e_isCT (K := K) T.e_InvalidText (e_var rfl) (cs := [.ref T.c_InvalidSheet, .ref T.c_InvalidCommand, .ref T.c_InvalidKind, .ref T.c_InvalidLot, .ref T.c_InvalidSlips, .ref T.c_InvalidColumn]) (fun _ _ _ q => q) (by show 6 ≤ 1000; decide) (cls_paired [_, _, _, _, _, _]) T.qa_InvalidText_1) ?_
      refine s_let (Q := D K (.bool false)) (μ1 := []) (e_or (a := false) (b := false) (e_var rfl) fun _ => e_isCT (K := K) T.e_InvalidText (e_var rfl) (cs := [.ref T.c_NotAlike, .ref T.c_NotPossible, .ref T.c_NotReady, .ref T.c_NothingToUndo, .ref T.c_TooMany, .ref T.c_Waits]) (fun _ _ _ q => q) (by show 6 ≤ 1000; decide) (cls_paired [_, _, _, _, _, _]) T.qa_InvalidText_2) ?_
      refine s_set (Q := D K (.list [.bool true, .bool true, .bool false])) (μ1 := []) (EO.frz (o_lst (K := K) (ds := [.bool true, .bool true, .bool false]) (d_cons (e_isC (K := K) T.e_InvalidText (e_var rfl) own_rel T.q_InvalidText_InvalidText) (d_cons (e_isC (K := K) T.e_InvalidText (e_var rfl) ty_rel T.q_InvalidText_ValueError) (d_cons (e_var rfl) d_nil))) (by show 3 ≤ 100000; decide))) ⟨by walk_at "le", rfl⟩
    · rintro δ' _ ⟨hle, rfl⟩
      refine S1.le ?_ hle
      exact s_ret (P := _) (μ1 := []) (e_var rfl) (back_D (imp_D (by show _ = PyData.list (match txtP d with | some sl => [.list (sl.map slipD)] | none => [.bool true, .bool true, .bool false]); rw [hk])))
theorem e__law_read {c_InvalidText : Addr} {δ : En} {μ μ' : Mp} {E : XK} {d : PyData} {tA : TA} (h : EA tA δ μ [D K d] μ') (hp : OkV d) : E1 (tCall (sp__law_read K c_InvalidText) [] E tA) δ μ (D K (.list (match txtP d with | some sl => [.list (sl.map slipD)] | none => [.bool true, .bool true, .bool false]))) μ' := e_callD d h hp
local macro_rules | `(tactic| walk_at "call") => `(tactic| ((with_reducible apply e__law_read); (· walk_at "ea"); (· walk_at "sd")))
def sp_show_slips (K : PySem.W.Frag)  : Sp := spD (α := (List (Int × Deed))) (fun (sl : (List (Int × Deed))) => [D K (.list (sl.map slipD))]) (fun (sl : (List (Int × Deed))) => (∀ s ∈ sl, 0 ≤ s.1 ∧ (TL.numL s.1.toNat).length ≤ 700 ∧ s.2 ∈ allDeeds 12 4) ∧ sl.length ≤ 4000) (fun (sl : (List (Int × Deed))) => D K (tD (slsL sl)))
theorem ok_show_slips (T : Txt K mg) : FnOk P w K mg base CX0 3 T.a_show_slips T.fd_show_slips ["slips"] (sp_show_slips K ) := by
  refine fn_Y T.F_show_slips sc_show_slips (fun _ => rfl) fun cdv A outer s H E hr => ⟨_, (pss_cons (ps_if (pt_not (pt_truth (pv 0) (by intro _; rfl))) (pss_one (ps_ret (pe_str))) (pss_nil)) (pss_one (ps_ret (pe_join (pe_str) (pe_lc (own := [("column", 1), ("deed", 2)]) (g := gTup K 2 (gCons (gName 1) (gCons (gName 2) (gNil)))) (tt := tYes) rfl sc_show_slips.nd (pi_list (pv 0)) (blkOk_by (N := ["slips", "column", "deed"]) (sc := defScope s_show_slips) (by decide +kernel)) (fun _ _ _ _ _ => k_gtup (K := K) rfl rfl (pgs_cons (pg_name (i := 1) sc_show_slips.nd rfl (Or.inl rfl)) (pgs_cons (pg_name (i := 2) sc_show_slips.nd rfl (Or.inl rfl)) pgs_nil))) (fun _ _ _ _ _ => pts_nil) (fun _ _ _ _ _ => pe_joined (.cons (pe_fmt (pe_call (ok_show_integer T) (hr.mono (by decide)) (by rfl) T.m_show_integer T.F_show_integer.kp T.b_show_integer .nil pass0 (pa_cons (pv 1) pa_nil))) (.cons (pe_str) (.cons (pe_fmt (pe_call (ok_show_deed T) (hr.mono (by decide)) (by rfl) T.m_show_deed T.F_show_deed.kp T.b_show_deed .nil pass0 (pa_cons (pv 2) pa_nil))) .nil))))))))), ?_⟩
  rintro sl hp
  replace hp : (∀ s ∈ sl, 0 ≤ s.1 ∧ (TL.numL s.1.toNat).length ≤ 700 ∧ s.2 ∈ allDeeds 12 4) ∧ sl.length ≤ 4000 := hp
  show S1 E _ [some (D K (.list (sl.map slipD))), none, none] [] { nx := fun _ μ => BackY (fun x Q μ => Q = (fun (sl : (List (Int × Deed))) => D K (tD (slsL sl))) x ∧ μ = []) sl (D K .none) μ, rt := BackY (fun x Q μ => Q = (fun (sl : (List (Int × Deed))) => D K (tD (slsL sl))) x ∧ μ = []) sl }
  try simp only [cx_K, cx_KX]
  obtain ⟨g, hlen⟩ := hp
  refine s_ifr (a := !(!(sl.map slipD).isEmpty)) (μ1 := []) (t_not (t_truL (e_var (P := D K (.list (sl.map slipD))) rfl) lr_D)) (fun h => ?_) (fun h => ?_)
  · have hn : sl = [] := by cases sl <;> first | rfl | cases h
    subst hn
    exact s_ret (Q := D K (tD [45])) e_cS (back_D (imp_D rfl))
  · have hn : sl ≠ [] := by rintro rfl; cases h
    have hs : tD (slsL sl) = tD (TL.joinL [44, 32] (sl.map slL)) := by unfold slsL; rw [if_neg hn]
    refine s_ret (Q := D K (tD (TL.joinL [44, 32] (sl.map slL)))) (e_joinS (K := K) (a := [44, 32]) (ls := sl.map slL) (N := 4000) (B := 713) (e_cS (s := ", ")) (P := D K (.list ((sl.map slL).map tD))) (EO.frz (by
      rw [List.map_map]
      refine o_mapW (K := K) (xs := sl) (X := fun i => D K (((sl.map slipD)[i]?).getD .none)) (en := fun x => D K (slipD x)) (out := tD ∘ slL) (by have := i_list (K := K) (te := tVar 0) (δ := [some (D K (.list (sl.map slipD))), none, none]) (μ := []) (e_var rfl); rw [List.length_map] at this; exact this) (fun i x hx => by rw [getD_map hx]) (by omega) fun x hx => ⟨_, g_two rfl, ?_⟩
      obtain ⟨h1, h2, h3⟩ := g x hx
      have n2 := (dt_facts h3).2
      exact e_fsS (by exact e_show_integer (n := x.1) (a_cons (e_var rfl) a_nil) ⟨h1, h2⟩) (by exact e_show_deed (x := x.2) (a_cons (e_var rfl) a_nil) h3) (by omega) (by omega))) lr_D (by rw [List.length_map]; exact hlen) (fun l hl => ?_) (by decide)) (back_D (imp_D hs.symm))
    obtain ⟨s, hs, rfl⟩ := List.mem_map.mp hl
    obtain ⟨h1, h2, h3⟩ := g s hs
    have n2 := (dt_facts h3).2
    unfold slL
    rw [List.length_append, List.length_cons]
    omega
theorem e_show_slips  {δ : En} {μ μ' : Mp} {E : XK} {sl : List (Int × Deed)} {tA : TA} (h : EA tA δ μ [D K (.list (sl.map slipD))] μ') (hp : (∀ s ∈ sl, 0 ≤ s.1 ∧ (TL.numL s.1.toNat).length ≤ 700 ∧ s.2 ∈ allDeeds 12 4) ∧ sl.length ≤ 4000) : E1 (tCall (sp_show_slips K ) [] E tA) δ μ (D K (tD (slsL sl))) μ' := e_callD sl h hp
local macro_rules | `(tactic| walk_at "call") => `(tactic| ((with_reducible apply e_show_slips); (· walk_at "ea"); (· walk_at "sd")))
def sp__law_right (K : PySem.W.Frag)  : Sp := spD (α := (PyData)) (fun (d : (PyData)) => [D K d]) (fun (d : (PyData)) => OkV d) (fun (d : (PyData)) => D K (.bool true))
theorem ok__law_right (T : Txt K mg) : FnOk P w K mg base CX0 6 T.a__law_right T.fd__law_right ["value"] (sp__law_right K ) := by
  refine fn_Y T.F__law_right sc__law_right (fun _ => rfl) fun cdv A outer s H E hr => ⟨_, (pss_cons (ps_set (i := 1) sc__law_right.nd rfl (Or.inl rfl) (pe_call (ok__law_read T) (hr.mono (by decide)) (by rfl) T.m__law_read T.F__law_read.kp T.b__law_read .nil pass0 (pa_cons (pv 0) pa_nil))) (pss_cons (ps_if (pt_not (pt_val (pe_call (ok__law_is_text T) (hr.mono (by decide)) (by rfl) T.m__law_is_text T.F__law_is_text.kp T.b__law_is_text .nil pass0 (pa_cons (pv 0) pa_nil)))) (pss_one (ps_ret (pe_cmpR (k_eqD (K := K) rfl hr.units) (pv 1) (pe_lst (pa_cons (pe_bl) (pa_cons (pe_bl) (pa_cons (pe_bl) pa_nil)))) (nomark _)))) (pss_nil)) (pss_one (ps_ret (pe_and (pe_cmpR op_eq (pe_callB (k_len (K := K) rfl) (by rfl) T.n_len (by decide +kernel) (pa_cons (pv 1) pa_nil)) (pe_int) (nomark _)) (pe_one (pe_cmpR op_eq (pe_call (ok_show_slips T) (hr.mono (by decide)) (by rfl) T.m_show_slips T.F_show_slips.kp T.b_show_slips .nil pass0 (pa_cons (pe_ix (k_ixL (K := K) rfl) (pv 1) (pe_int) (fun _ _ => rfl)) pa_nil)) (pv 0) (nomark _)))))))), ?_⟩
  rintro d hp
  replace hp : OkV d := hp
  show S1 E _ [some (D K d), none] [] { nx := fun _ μ => BackY (fun x Q μ => Q = (fun (d : (PyData)) => D K (.bool true)) x ∧ μ = []) d (D K .none) μ, rt := BackY (fun x Q μ => Q = (fun (d : (PyData)) => D K (.bool true)) x ∧ μ = []) d }
  try simp only [cx_K, cx_KX]
  refine s_let (Q := D K (.list (match txtP d with | some sl => [.list (sl.map slipD)] | none => [.bool true, .bool true, .bool false]))) (μ1 := []) (by exact e__law_read (d := d) (a_cons (e_var rfl) a_nil) hp) ?_
  simp only [List.set_cons_succ, List.set_cons_zero]
  refine s_ifr (a := !(txtP d).isSome) (μ1 := []) (t_not (t_B (K := K) (by exact e__law_is_text (d := d) (a_cons (e_var rfl) a_nil) hp))) (fun h => ?_) (fun h => ?_)
  · cases hk : txtP d with
    | some sl => rw [hk] at h; cases h
    | none => exact s_ret (e_eqD (K := K) (b := true) (e_var rfl) (EO.frz (o_lst (K := K) (ds := [.bool true, .bool true, .bool false]) (d_cons e_cB (d_cons e_cB (d_cons e_cB d_nil))) (by show 3 ≤ 100000; decide))) dr_D dr_D (by decide) (by decide) (by rfl)) (back_D (Imp.refl _))
  · cases hk : txtP d with
    | none => rw [hk] at h; cases h
    | some sl =>
      obtain ⟨x, rfl⟩ : ∃ x, d = .str x := by cases d <;> first | exact ⟨_, rfl⟩ | cases hk
      obtain ⟨hlen, hcd⟩ := hp x rfl
      obtain ⟨a, ha⟩ : ∃ a, a = TL.tl x := ⟨_, rfl⟩
      have hxa : x = S a := by rw [ha]
      have htx : slipsP a = some sl := by rw [← hk, ha]; rfl
      rw [← ha] at hlen hcd
      clear ha hk h hp
      subst hxa
      obtain ⟨hb, hg⟩ := slipsP_back htx
      have hj : ∀ {ps : List (List Nat)}, ps.length ≤ (TL.joinL [44, 32] ps).length + 1 := fun {ps} => by
        induction ps with
        | nil => exact Nat.zero_le _
        | cons q ps ih =>
          by_cases he : ps = []
          · subst he
            show 1 ≤ _
            omega
          · rw [joinL_cons _ _ he, List.length_append, List.length_append, List.length_cons]
            show _ ≤ q.length + (2 + _) + 1
            omega
      have hpre : (∀ s ∈ sl, 0 ≤ s.1 ∧ (TL.numL s.1.toNat).length ≤ 700 ∧ s.2 ∈ allDeeds 12 4) ∧ sl.length ≤ 4000 := by
        by_cases hn : sl = []
        · subst hn
          exact ⟨fun _ h => by (cases h), Nat.zero_le _⟩
        have hs : TL.joinL [44, 32] (sl.map slL) = a := by rw [← hb]; unfold slsL; rw [if_neg hn]
        refine ⟨fun s h => ⟨(hg s h).1, ?_, (hg s h).2⟩, ?_⟩
        · have h1 := cD_join (sep := [44, 32]) (List.mem_map_of_mem (f := slL) h)
          rw [hs] at h1
          have h2 : cD (slL s) = cD (TL.numL s.1.toNat) + cD (32 :: dtL s.2) := cD_app _ _
          have h3 : cD (TL.numL s.1.toNat) = (TL.numL s.1.toNat).length := cD_all (List.all_eq_true.mpr fun c hc => by
            have := TL.numL_digits _ c hc
            unfold digC
            simp only [Bool.and_eq_true, decide_eq_true_eq]
            exact this)
          omega
        · have := hj (ps := sl.map slL)
          rw [hs, List.length_map] at this
          omega
      have hsl : E1 (tCall (sp_show_slips K) [] E0 (tCons (tOp (rIxL K) (tVar 1) (tC (V.int 0))) tNil)) [some (D K (tD a)), some (D K (.list [.list (sl.map slipD)]))] [] (D K (tD (slsL sl))) [] := by
        exact e_show_slips (sl := sl) (a_cons (e_ixL (K := K) (ds := [.list (sl.map slipD)]) (e_var rfl) e_cI lr_D (atI_int (Int.le_refl _) rfl)) a_nil) hpre
      rw [hb] at hsl
      exact s_ret (e_and (a := true) (b := true) (E1.cast (e_eqI (e_len (ds := [.list (sl.map slipD)]) (e_var rfl) lr_D) e_cI) rfl) fun _ => E1.cast (e_eqS hsl (e_var rfl)) (by simp)) (back_D (Imp.refl _))
theorem e__law_right  {δ : En} {μ μ' : Mp} {E : XK} {d : PyData} {tA : TA} (h : EA tA δ μ [D K d] μ') (hp : OkV d) : E1 (tCall (sp__law_right K ) [] E tA) δ μ (D K (.bool true)) μ' := e_callD d h hp
local macro_rules | `(tactic| walk_at "call") => `(tactic| ((with_reducible apply e__law_right); (· walk_at "ea"); (· walk_at "sd")))
abbrev spT := Addr × Deck × List Nat × Nat × Nat
abbrev spA (K : PySem.W.Frag) (x : spT) : List Pr := match x with | (dk, D0, l, N, L) => [Av dk, D K (tD l)]
abbrev spM (x : spT) : Mp := match x with | (dk, D0, l, N, L) => [(dk, DKo D0)]
abbrev spP (x : spT) : Prop := match x with | (dk, D0, l, N, L) => OkT N L l ∧ L ≤ 2000
abbrev spR (K : PySem.W.Frag) (x : spT) (Q : Pr) (μ : Mp) : Prop := match x with | (dk, D0, l, N, L) => ∃ (l1 : List Nat) (D1 : Deck), Q = D K (tD l1) ∧ OkT (2 * N + 2) (2 * L + 2) l1 ∧ μ = [(dk, DKo D1)]
def sp__law_spoilt (K : PySem.W.Frag) : Sp := sp (spA K) spM spP (spR K)
theorem sp_len {ta : TE} {δ : En} {μ μ1 : Mp} {l : List Nat} (h : E1 ta δ μ (D K (tD l)) μ1) (hl : l.length ≤ 1000000) : E1 (tCB (fun xs H Q => ∃ z, xs = [V.str z] ∧ z.length ≤ sizeLine ∧ Q (V.int (z.length : Nat)) H) (tCons ta tNil)) δ μ (D K (.int (l.length : Nat))) μ1 :=
  e_CB1 h fun G H F M v m mm p Q q => by
    obtain rfl := dp_str p
    have e : (S l).length = l.length := S_len l
    refine ⟨S l, rfl, by rw [S_len, sizeLine_eq]; omega, ?_⟩
    rw [e]
    exact q _ G M H (Ex.refl _) m (.int _) mm
theorem sp_ix {ta tb : TE} {δ : En} {μ μ1 μ2 : Mp} {l : List Nat} {i : Int} {c : Nat} (h1 : E1 ta δ μ (D K (tD l)) μ1) (h2 : E1 tb δ μ1 (D K (.int i)) μ2) (hl : l.length ≤ 1000000) (hx : atI l i = some c) : E1 (tOp rIxS ta tb) δ μ (D K (tD [c])) μ2 :=
  e_op h1 h2 fun G H F M x y mm0 mm p1 p2 Q q => by
    rw [dp_str p1, dp_int p2]
    exact ⟨_, i, c, rfl, rfl, by rw [S_len, sizeLine_eq]; omega, hx, q _ G M H (Ex.refl _) mm0 (.str _) mm⟩
theorem sp_cut {N L : Nat} {l : List Nat} (g : OkT N L l) (lo hi : Option Int) : OkT N L (cutG l lo hi) := g.sub (cutG_sub l lo hi)
theorem sp_two {N L : Nat} {l : List Nat} (g : OkT N L l) {i j : Int} (h0 : 0 ≤ i) (h1 : j = i + 1) : OkT 1 1 (cutG l (some i) (some j)) := by
  have h2 := sp_cut g (some i) (some j)
  have h3 : (cutG l (some i) (some j)).length ≤ 1 := by
    rw [cutG_two _ h0 (by omega), List.length_drop, List.length_take]
    omega
  exact ⟨h3, Nat.le_trans List.countP_le_length h3, h2.asc⟩
theorem sp_chars : ∀ k : Fin 27, ∃ c, atI (TL.tl (Str.ofString "0123456789abc:,- ABtfs.+_~!")) (k.val : Int) = some c ∧ c < 128 := by decide +kernel
theorem sp_clen : (TL.tl (Str.ofString "0123456789abc:,- ABtfs.+_~!")).length = 27 := by decide +kernel
theorem ok__law_spoilt (T : Txt K mg) : FnOk P w K mg base CX0 2 T.a__law_spoilt T.fd__law_spoilt ["deck", "text"] (sp__law_spoilt K) := by
  refine fn_Y T.F__law_spoilt sc__law_spoilt (fun _ => rfl) fun cdv A outer s H E hr => ⟨_, (pss_cons (ps_set (i := 2) sc__law_spoilt.nd rfl (Or.inl rfl) (pe_call (ok__law_draw T) (hr.mono (by decide)) (by rfl) T.m__law_draw T.F__law_draw.kp T.b__law_draw .nil pass0 (pa_cons (pv 0) (pa_cons (pe_int) pa_nil)))) (pss_cons (ps_set (i := 3) sc__law_spoilt.nd rfl (Or.inl rfl) (pe_call (ok__law_draw T) (hr.mono (by decide)) (by rfl) T.m__law_draw T.F__law_draw.kp T.b__law_draw .nil pass0 (pa_cons (pv 0) (pa_cons (pe_op op_add (pe_callB call_len_str (by rfl) T.n_len (by decide +kernel) (pa_cons (pv 1) pa_nil)) (pe_int)) pa_nil)))) (pss_cons (ps_set (i := 4) sc__law_spoilt.nd rfl (Or.inl rfl) (pe_op op_add (pv 3) (pe_call (ok__law_draw T) (hr.mono (by decide)) (by rfl) T.m__law_draw T.F__law_draw.kp T.b__law_draw .nil pass0 (pa_cons (pv 0) (pa_cons (pe_op op_sub (pe_op op_add (pe_callB call_len_str (by rfl) T.n_len (by decide +kernel) (pa_cons (pv 1) pa_nil)) (pe_int)) (pv 3)) pa_nil))))) (pss_cons (ps_set (i := 5) sc__law_spoilt.nd rfl (Or.inl rfl) (pe_str)) (pss_cons (ps_set (i := 6) sc__law_spoilt.nd rfl (Or.inl rfl) (pe_ix ix_str (pv 5) (pe_call (ok__law_draw T) (hr.mono (by decide)) (by rfl) T.m__law_draw T.F__law_draw.kp T.b__law_draw .nil pass0 (pa_cons (pv 0) (pa_cons (pe_callB call_len_str (by rfl) T.n_len (by decide +kernel) (pa_cons (pv 5) pa_nil)) pa_nil))) (fun _ _ => rfl))) (pss_cons (ps_if (pt_cmpR op_eq (pv 2) (pe_int) (nomark _)) (pss_one (ps_ret (pe_op op_add_str (pe_op op_add_str (pe_slice sl_str (pv 1) po_none (po_some (pv 3))) (pv 6)) (pe_slice sl_str (pv 1) (po_some (pv 3)) po_none)))) (pss_nil)) (pss_cons (ps_if (pt_cmpR op_eq (pv 2) (pe_int) (nomark _)) (pss_one (ps_ret (pe_op op_add_str (pe_slice sl_str (pv 1) po_none (po_some (pv 3))) (pe_slice sl_str (pv 1) (po_some (pe_op op_add (pv 3) (pe_int))) po_none)))) (pss_nil)) (pss_cons (ps_if (pt_cmpR op_eq (pv 2) (pe_int) (nomark _)) (pss_one (ps_ret (pe_op op_add_str (pe_op op_add_str (pe_slice sl_str (pv 1) po_none (po_some (pv 3))) (pv 6)) (pe_slice sl_str (pv 1) (po_some (pe_op op_add (pv 3) (pe_int))) po_none)))) (pss_nil)) (pss_cons (ps_if (pt_cmpR op_eq (pv 2) (pe_int) (nomark _)) (pss_cons (ps_set (i := 8) sc__law_spoilt.nd rfl (Or.inl rfl) (pe_op op_add_str (pe_slice sl_str (pv 1) (po_some (pe_op op_add (pv 3) (pe_int))) (po_some (pe_op op_add (pv 3) (pe_int)))) (pe_slice sl_str (pv 1) (po_some (pv 3)) (po_some (pe_op op_add (pv 3) (pe_int)))))) (pss_one (ps_ret (pe_op op_add_str (pe_op op_add_str (pe_slice sl_str (pv 1) po_none (po_some (pv 3))) (pv 8)) (pe_slice sl_str (pv 1) (po_some (pe_op op_add (pv 3) (pe_int))) po_none))))) (pss_nil)) (pss_cons (ps_if (pt_cmpR op_eq (pv 2) (pe_int) (nomark _)) (pss_one (ps_ret (pe_op op_add_str (pe_slice sl_str (pv 1) po_none (po_some (pv 3))) (pe_slice sl_str (pv 1) (po_some (pv 4)) po_none)))) (pss_nil)) (pss_cons (ps_if (pt_cmpR op_eq (pv 2) (pe_int) (nomark _)) (pss_one (ps_ret (pe_slice sl_str (pv 1) (po_some (pv 3)) (po_some (pv 4))))) (pss_nil)) (pss_cons (ps_if (pt_cmpR op_eq (pv 2) (pe_int) (nomark _)) (pss_one (ps_ret (pe_op op_add_str (pe_slice sl_str (pv 1) po_none (po_some (pv 4))) (pe_slice sl_str (pv 1) (po_some (pv 3)) po_none)))) (pss_nil)) (pss_cons (ps_set (i := 7) sc__law_spoilt.nd rfl (Or.inl rfl) (pe_lst (pa_cons (pe_op op_add_str (pv 1) (pe_str)) (pa_cons (pe_op op_add_str (pe_str) (pv 1)) (pa_cons (pe_op op_add_str (pv 1) (pv 6)) (pa_cons (pe_op op_add_str (pv 6) (pv 1)) (pa_cons (pe_upper (pv 1)) (pa_cons (pe_op op_add_str (pv 1) (pv 1)) pa_nil)))))))) (pss_one (ps_ret (pe_ix (k_ixL (K := K) rfl) (pv 7) (pe_call (ok__law_draw T) (hr.mono (by decide)) (by rfl) T.m__law_draw T.F__law_draw.kp T.b__law_draw .nil pass0 (pa_cons (pv 0) (pa_cons (pe_callB (k_len (K := K) rfl) (by rfl) T.n_len (by decide +kernel) (pa_cons (pv 7) pa_nil)) pa_nil))) (fun _ _ => rfl))))))))))))))))), ?_⟩
  rintro ⟨dk, D0, l, N, L⟩ ⟨g, hL⟩
  show S1 E _ [some (Av dk), some (D K (tD l)), none, none, none, none, none, none, none] [(dk, DKo D0)] { nx := fun _ μ => BackY (spR K) (dk, D0, l, N, L) (D K .none) μ, rt := BackY (spR K) (dk, D0, l, N, L) }
  try simp only [cx_K, cx_KX]
  have hlen := g.len
  have hz : l.length ≤ 1000000 := by omega
  have hn1 : 0 < ((l.length : Nat) : Int) + 1 ∧ ((l.length : Nat) : Int) + 1 < 2 ^ 200 := by
    have : (2001 : Int) < 2 ^ 200 := by decide
    omega
  have h8 : 0 < (8 : Int) ∧ (8 : Int) < 2 ^ 200 := by decide
  have w0 : 0 ≤ dv D0 8 := dv_lo (by decide)
  have w1 : dv D0 8 < 8 := dv_hi (by decide)
  refine s_let (Q := D K (.int (dv D0 8))) (μ1 := [(dk, DKo (dn D0 8))]) (by exact e_draw (K := K) (Dk := D0) (rest := []) (a_cons (e_var rfl) (a_cons e_cI a_nil)) h8) ?_
  generalize dv D0 8 = way at w0 w1 ⊢
  generalize dn D0 8 = D1
  have a0 : 0 ≤ dv D1 (((l.length : Nat) : Int) + 1) := dv_lo hn1.1
  have a1 : dv D1 (((l.length : Nat) : Int) + 1) < ((l.length : Nat) : Int) + 1 := dv_hi hn1.1
  refine s_let (Q := D K (.int (dv D1 (((l.length : Nat) : Int) + 1)))) (μ1 := [(dk, DKo (dn D1 (((l.length : Nat) : Int) + 1)))]) (by exact e_draw (K := K) (Dk := D1) (rest := []) (a_cons (e_var rfl) (a_cons (e_add (sp_len (e_var rfl) hz) e_cI) a_nil)) hn1) ?_
  generalize dv D1 (((l.length : Nat) : Int) + 1) = at1 at a0 a1 ⊢
  generalize dn D1 (((l.length : Nat) : Int) + 1) = D2
  have hn2 : 0 < ((l.length : Nat) : Int) + 1 - at1 ∧ ((l.length : Nat) : Int) + 1 - at1 < 2 ^ 200 := by omega
  have b0 : 0 ≤ dv D2 (((l.length : Nat) : Int) + 1 - at1) := dv_lo hn2.1
  refine s_let (Q := D K (.int (at1 + dv D2 (((l.length : Nat) : Int) + 1 - at1)))) (μ1 := [(dk, DKo (dn D2 (((l.length : Nat) : Int) + 1 - at1)))]) (e_add (e_var rfl) (by exact e_draw (K := K) (Dk := D2) (rest := []) (a_cons (e_var rfl) (a_cons (e_sub (e_add (sp_len (e_var rfl) hz) e_cI) (e_var rfl)) a_nil)) hn2)) ?_
  generalize hto : at1 + dv D2 (((l.length : Nat) : Int) + 1 - at1) = to1
  have t0 : 0 ≤ to1 := by omega
  generalize dn D2 (((l.length : Nat) : Int) + 1 - at1) = D3
  clear hto b0 hn2
  refine s_let (Q := D K (tD (TL.tl (Str.ofString "0123456789abc:,- ABtfs.+_~!")))) (μ1 := [(dk, DKo D3)]) e_cT ?_
  have hcl := sp_clen
  have hch := sp_chars
  generalize TL.tl (Str.ofString "0123456789abc:,- ABtfs.+_~!") = chars at hcl hch ⊢
  have h27 : 0 < ((chars.length : Nat) : Int) ∧ ((chars.length : Nat) : Int) < 2 ^ 200 := by rw [hcl]; decide
  have c0 : 0 ≤ dv D3 ((chars.length : Nat) : Int) := dv_lo h27.1
  have c1 : dv D3 ((chars.length : Nat) : Int) < ((chars.length : Nat) : Int) := dv_hi h27.1
  obtain ⟨ch, hat, hc128⟩ := hch ⟨(dv D3 ((chars.length : Nat) : Int)).toNat, by omega⟩
  have hat : atI chars (dv D3 ((chars.length : Nat) : Int)) = some ch := by
    rw [← hat]
    congr 1
    show _ = (((dv D3 ((chars.length : Nat) : Int)).toNat : Nat) : Int)
    omega
  refine s_let (Q := D K (tD [ch])) (μ1 := [(dk, DKo (dn D3 ((chars.length : Nat) : Int)))]) (sp_ix (e_var rfl) (by exact e_draw (K := K) (Dk := D3) (rest := []) (a_cons (e_var rfl) (a_cons (sp_len (e_var rfl) (by omega)) a_nil)) h27) (by omega) hat) ?_
  generalize dn D3 ((chars.length : Nat) : Int) = D4
  simp only [List.set_cons_succ, List.set_cons_zero]
  have oc : OkT 1 1 [ch] := OkT.one hc128
  have hback : ∀ {l1 : List Nat} {N1 L1 : Nat}, OkT N1 L1 l1 → N1 ≤ 2 * N + 2 → L1 ≤ 2 * L + 2 → BackY (spR K) (dk, D0, l, N, L) (D K (tD l1)) [(dk, DKo D4)] := fun {l1} {N1} {L1} h h1 h2 => backY_mk (R := spR K) ⟨l1, D4, rfl, h.mono h1 h2, rfl⟩ (Imp.refl _) (List.Sublist.refl _)
  have ocut : ∀ lo hi, OkT N L (cutG l lo hi) := fun lo hi => sp_cut g lo hi
  have lcut : ∀ lo hi, (cutG l lo hi).length ≤ L := fun lo hi => (ocut lo hi).len
  have hi1 : ∀ {δ : En} {i : Int}, δ[1]? = some (some (D K (tD l))) → ∀ {t : TE}, E1 t δ [(dk, DKo D4)] (D K (.int i)) [(dk, DKo D4)] → E1 (tSl rSlS (tVar 1) tNoPart (tPart t)) δ [(dk, DKo D4)] (D K (tD (cutG l none (some i)))) [(dk, DKo D4)] := fun h _ ht => e_slS (e_var h) y_none (y_some ht) hz
  have lo1 : ∀ {δ : En} {i : Int}, δ[1]? = some (some (D K (tD l))) → ∀ {t : TE}, E1 t δ [(dk, DKo D4)] (D K (.int i)) [(dk, DKo D4)] → E1 (tSl rSlS (tVar 1) (tPart t) tNoPart) δ [(dk, DKo D4)] (D K (tD (cutG l (some i) none))) [(dk, DKo D4)] := fun h _ ht => e_slS (e_var h) (y_some ht) y_none hz
  refine s_ifr (a := decide (way = 0)) (μ1 := [(dk, DKo D4)]) (t_test (e_eqI (e_var rfl) e_cI)) (fun _ => s_ret (e_addT (e_addT (hi1 rfl (e_var rfl)) (e_var rfl) ?_) (lo1 rfl (e_var rfl)) ?_) (hback (((ocut none (some at1)).app oc).app (ocut (some at1) none)) (by omega) (by omega))) fun _ => ?_
  · have := lcut none (some at1)
    show _ + 1 ≤ _
    omega
  · have := lcut none (some at1)
    have := lcut (some at1) none
    rw [List.length_append]
    show _ + 1 + _ ≤ _
    omega
  refine s_ifr (a := decide (way = 1)) (μ1 := [(dk, DKo D4)]) (t_test (e_eqI (e_var rfl) e_cI)) (fun _ => s_ret (e_addT (hi1 rfl (e_var rfl)) (lo1 rfl (e_add (e_var rfl) e_cI)) ?_) (hback ((ocut none (some at1)).app (ocut (some (at1 + 1)) none)) (by omega) (by omega))) fun _ => ?_
  · have := lcut none (some at1)
    have := lcut (some (at1 + 1)) none
    omega
  refine s_ifr (a := decide (way = 2)) (μ1 := [(dk, DKo D4)]) (t_test (e_eqI (e_var rfl) e_cI)) (fun _ => s_ret (e_addT (e_addT (hi1 rfl (e_var rfl)) (e_var rfl) ?_) (lo1 rfl (e_add (e_var rfl) e_cI)) ?_) (hback (((ocut none (some at1)).app oc).app (ocut (some (at1 + 1)) none)) (by omega) (by omega))) fun _ => ?_
  · have := lcut none (some at1)
    show _ + 1 ≤ _
    omega
  · have := lcut none (some at1)
    have := lcut (some (at1 + 1)) none
    rw [List.length_append]
    show _ + 1 + _ ≤ _
    omega
  have o1 : OkT 1 1 (cutG l (some (at1 + 1)) (some (at1 + 2))) := sp_two g (by omega) (by omega)
  have o2 : OkT 1 1 (cutG l (some at1) (some (at1 + 1))) := sp_two g (by omega) rfl
  have l1 := o1.len
  have l2 := o2.len
  refine s_ifr (a := decide (way = 3)) (μ1 := [(dk, DKo D4)]) (t_test (e_eqI (e_var rfl) e_cI)) (fun _ => ?_) fun _ => ?_
  · refine s_let (Q := D K (tD (cutG l (some (at1 + 1)) (some (at1 + 2)) ++ cutG l (some at1) (some (at1 + 1))))) (μ1 := [(dk, DKo D4)]) (e_addT (e_slS (e_var rfl) (y_some (e_add (e_var rfl) e_cI)) (y_some (e_add (e_var rfl) e_cI)) hz) (e_slS (e_var rfl) (y_some (e_var rfl)) (y_some (e_add (e_var rfl) e_cI)) hz) (by omega)) ?_
    simp only [List.set_cons_succ, List.set_cons_zero]
    refine s_ret (e_addT (e_addT (hi1 rfl (e_var rfl)) (e_var rfl) ?_) (lo1 rfl (e_add (e_var rfl) e_cI)) ?_) (hback (((ocut none (some at1)).app (o1.app o2)).app (ocut (some (at1 + 2)) none)) (by omega) (by omega))
    · have := lcut none (some at1)
      rw [List.length_append]
      omega
    · have := lcut none (some at1)
      have := lcut (some (at1 + 2)) none
      rw [List.length_append, List.length_append]
      omega
  refine s_ifr (a := decide (way = 4)) (μ1 := [(dk, DKo D4)]) (t_test (e_eqI (e_var rfl) e_cI)) (fun _ => s_ret (e_addT (hi1 rfl (e_var rfl)) (lo1 rfl (e_var rfl)) ?_) (hback ((ocut none (some at1)).app (ocut (some to1) none)) (by omega) (by omega))) fun _ => ?_
  · have := lcut none (some at1)
    have := lcut (some to1) none
    omega
  refine s_ifr (a := decide (way = 5)) (μ1 := [(dk, DKo D4)]) (t_test (e_eqI (e_var rfl) e_cI)) (fun _ => s_ret (e_slS (e_var rfl) (y_some (e_var rfl)) (y_some (e_var rfl)) hz) (hback (ocut (some at1) (some to1)) (by omega) (by omega))) fun _ => ?_
  refine s_ifr (a := decide (way = 6)) (μ1 := [(dk, DKo D4)]) (t_test (e_eqI (e_var rfl) e_cI)) (fun _ => s_ret (e_addT (hi1 rfl (e_var rfl)) (lo1 rfl (e_var rfl)) ?_) (hback ((ocut none (some to1)).app (ocut (some at1) none)) (by omega) (by omega))) fun _ => ?_
  · have := lcut none (some to1)
    have := lcut (some at1) none
    omega
  have ob : OkT 1 1 [32] := OkT.one (by decide)
  refine s_let (Q := D K (.list (([l ++ [32], [32] ++ l, l ++ [ch], [ch] ++ l, l.map PyProof.Rows.up1, l ++ l] : List (List Nat)).map tD))) (μ1 := [(dk, DKo D4)]) (EO.frz (o_lst (K := K) (ds := [tD (l ++ [32]), tD ([32] ++ l), tD (l ++ [ch]), tD ([ch] ++ l), tD (l.map PyProof.Rows.up1), tD (l ++ l)]) (d_cons (e_addT (e_var rfl) (e_cS (s := " ")) (by show _ + 1 ≤ _; omega)) (d_cons (e_addT (e_cS (s := " ")) (e_var rfl) (by show 1 + _ ≤ _; omega)) (d_cons (e_addT (e_var rfl) (e_var rfl) (by show _ + 1 ≤ _; omega)) (d_cons (e_addT (e_var rfl) (e_var rfl) (by show 1 + _ ≤ _; omega)) (d_cons (e_upper (e_var rfl) g.asc hz) (d_cons (e_addT (e_var rfl) (e_var rfl) (by omega)) d_nil)))))) (by show 6 ≤ 100000; decide))) ?_
  have hall : ∀ t ∈ ([l ++ [32], [32] ++ l, l ++ [ch], [ch] ++ l, l.map PyProof.Rows.up1, l ++ l] : List (List Nat)), OkT (2 * N + 2) (2 * L + 2) t := fun t ht => by
    simp only [List.mem_cons, List.not_mem_nil, or_false] at ht
    rcases ht with rfl | rfl | rfl | rfl | rfl | rfl
    · exact (g.app ob).mono (by omega) (by omega)
    · exact (ob.app g).mono (by omega) (by omega)
    · exact (g.app oc).mono (by omega) (by omega)
    · exact (oc.app g).mono (by omega) (by omega)
    · exact g.up.mono (by omega) (by omega)
    · exact (g.app g).mono (by omega) (by omega)
  have h6 : (([l ++ [32], [32] ++ l, l ++ [ch], [ch] ++ l, l.map PyProof.Rows.up1, l ++ l] : List (List Nat))).length = 6 := rfl
  generalize ([l ++ [32], [32] ++ l, l ++ [ch], [ch] ++ l, l.map PyProof.Rows.up1, l ++ l] : List (List Nat)) = xs at hall h6 ⊢
  simp only [List.set_cons_succ, List.set_cons_zero]
  have hx6 : (((xs.map tD).length : Nat) : Int) = 6 := by rw [List.length_map, h6]; rfl
  have h66 : 0 < (((xs.map tD).length : Nat) : Int) ∧ (((xs.map tD).length : Nat) : Int) < 2 ^ 200 := by rw [hx6]; decide
  have i0 : 0 ≤ dv D4 (((xs.map tD).length : Nat) : Int) := dv_lo h66.1
  have i1 : dv D4 (((xs.map tD).length : Nat) : Int) < (((xs.map tD).length : Nat) : Int) := dv_hi h66.1
  refine s_ret (μ1 := [(dk, DKo (dn D4 (((xs.map tD).length : Nat) : Int)))]) (e_ixLM (K := K) (enc := tD) (xs := xs) (i := dv D4 (((xs.map tD).length : Nat) : Int)) [] (e_var (P := D K (.list (xs.map tD))) rfl) (by exact e_draw (K := K) (Dk := D4) (rest := []) (a_cons (e_var rfl) (a_cons (e_len (e_var (P := D K (.list (xs.map tD))) rfl) lr_D) a_nil)) h66) lr_D ⟨i0, by rw [h6]; show _ < (6 : Int); omega⟩) ?_
  have hi : (dv D4 (((xs.map tD).length : Nat) : Int)).toNat < xs.length := by rw [h6]; omega
  refine backY_mk (R := spR K) ⟨xs.getD (dv D4 (((xs.map tD).length : Nat) : Int)).toNat [], _, rfl, ?_, rfl⟩ (Imp.refl _) (List.Sublist.refl _)
  rw [List.getD_eq_getElem?_getD, List.getElem?_eq_getElem hi]
  exact hall _ (List.getElem_mem hi)
theorem y__law_spoilt {δ : En} {μ : Mp} {E : XK} {dk : Addr} {D0 : Deck} {l : List Nat} {rest : Mp} {tA : TA} (N L : Nat) (h : EA tA δ μ [Av dk, D K (tD l)] ((dk, DKo D0) :: rest)) (g : OkT N L l) (hL : L ≤ 2000) :
    EY (tCall (sp__law_spoilt K) [] E tA) δ μ (fun Q μ' => ∃ (l1 : List Nat) (D1 : Deck), Q = D K (tD l1) ∧ OkT (2 * N + 2) (2 * L + 2) l1 ∧ μ' = (dk, DKo D1) :: rest) :=
  (y_call (A := spA K) (m := spM) (pre := spP) (R := spR K) (rest := rest) (dk, D0, l, N, L) h ⟨g, hL⟩).imp fun Q μ' z => by
    obtain ⟨_, ⟨l1, D1, h1, h2, rfl⟩, rfl⟩ := z
    exact ⟨l1, D1, h1, h2, rfl⟩
def sp__law_deed (K : PySem.W.Frag)  : Sp := spK (α := (Deck) × (Int) × (Int)) (fun (x : (Deck) × (Int) × (Int)) => match x with | (Dk, b, r) => [D K (.int b), D K (.int r)]) (fun (x : (Deck) × (Int) × (Int)) => match x with | (Dk, b, r) => (2 ≤ b ∧ b ≤ 12) ∧ (1 ≤ r ∧ r ≤ 4)) (fun (x : (Deck) × (Int) × (Int)) => match x with | (Dk, b, r) => Dk) (fun (x : (Deck) × (Int) × (Int)) => match x with | (Dk, b, r) => D K (deedD (deedV Dk b r))) (fun (x : (Deck) × (Int) × (Int)) => match x with | (Dk, b, r) => deedDk Dk b r)
theorem ok__law_deed (T : Txt K mg) : FnOk P w K mg base CX0 2 T.a__law_deed T.fd__law_deed ["deck", "base", "rows"] (sp__law_deed K ) := by
  refine fn_Y T.F__law_deed sc__law_deed (fun _ => rfl) fun cdv A outer s H E hr => ⟨_, (pss_cons (ps_set (i := 3) sc__law_deed.nd rfl (Or.inl rfl) (pe_call (ok__law_draw T) (hr.mono (by decide)) (by rfl) T.m__law_draw T.F__law_draw.kp T.b__law_draw .nil pass0 (pa_cons (pv 0) (pa_cons (pe_int) pa_nil)))) (pss_cons (ps_set (i := 4) sc__law_deed.nd rfl (Or.inl rfl) (pe_op op_add (pe_int) (pe_call (ok__law_draw T) (hr.mono (by decide)) (by rfl) T.m__law_draw T.F__law_draw.kp T.b__law_draw .nil pass0 (pa_cons (pv 0) (pa_cons (pe_op op_sub (pv 1) (pe_int)) pa_nil))))) (pss_cons (ps_set (i := 5) sc__law_deed.nd rfl (Or.inl rfl) (pe_call (ok__law_draw T) (hr.mono (by decide)) (by rfl) T.m__law_draw T.F__law_draw.kp T.b__law_draw .nil pass0 (pa_cons (pv 0) (pa_cons (pv 2) pa_nil)))) (pss_cons (ps_if (pt_cmpR op_eq (pv 3) (pe_int) (nomark _)) (pss_one (ps_ret (pe_tup (pa_cons (pe_str) (pa_cons (pv 4) pa_nil))))) (pss_nil)) (pss_cons (ps_if (pt_cmpR op_eq (pv 3) (pe_int) (nomark _)) (pss_one (ps_ret (pe_tup (pa_cons (pe_str) (pa_cons (pv 5) (pa_cons (pv 4) pa_nil)))))) (pss_nil)) (pss_cons (ps_if (pt_cmpR op_eq (pv 3) (pe_int) (nomark _)) (pss_one (ps_ret (pe_tup (pa_cons (pe_str) (pa_cons (pv 5) pa_nil))))) (pss_nil)) (pss_one (ps_ret (pe_tup (pa_cons (pe_ix (k_ixL (K := K) rfl) (pe_lst (pa_cons (pe_str) (pa_cons (pe_str) (pa_cons (pe_str) (pa_cons (pe_str) (pa_cons (pe_str) pa_nil)))))) (pe_op op_sub (pv 3) (pe_int)) (fun _ _ => rfl)) pa_nil)))))))))), ?_⟩
  rintro ⟨ad, Dk, b, r⟩ hp
  replace hp : (2 ≤ b ∧ b ≤ 12) ∧ (1 ≤ r ∧ r ≤ 4) := hp
  show S1 E _ [some (Av ad), some (D K (.int b)), some (D K (.int r)), none, none, none] [(ad, DKo Dk)] { nx := fun _ μ => BackY (fun (x : Addr × (Deck) × (Int) × (Int)) Q μ => Q = (fun (x : (Deck) × (Int) × (Int)) => match x with | (Dk, b, r) => D K (deedD (deedV Dk b r))) x.2 ∧ μ = [(x.1, DKo ((fun (x : (Deck) × (Int) × (Int)) => match x with | (Dk, b, r) => deedDk Dk b r) x.2))]) (ad, (Dk, b, r)) (D K .none) μ, rt := BackY (fun (x : Addr × (Deck) × (Int) × (Int)) Q μ => Q = (fun (x : (Deck) × (Int) × (Int)) => match x with | (Dk, b, r) => D K (deedD (deedV Dk b r))) x.2 ∧ μ = [(x.1, DKo ((fun (x : (Deck) × (Int) × (Int)) => match x with | (Dk, b, r) => deedDk Dk b r) x.2))]) (ad, (Dk, b, r)) }
  try simp only [cx_K, cx_KX]
  obtain ⟨hb, hr⟩ := hp
  walk_at "Let"
  walk_at "Let"
  walk_at "Let"
  have hw0 : 0 ≤ dv Dk 8 := dv_lo (by decide)
  have hw8 : dv Dk 8 < 8 := dv_hi (by decide)
  have hq : deedV Dk b r = deedAt (dv Dk 8) (1 + dv (dn Dk 8) (b - 1)) (dv (dn (dn Dk 8) (b - 1)) r) := rfl
  generalize 1 + dv (dn Dk 8) (b - 1) = d at hq ⊢
  generalize dv (dn (dn Dk 8) (b - 1)) r = j at hq ⊢
  generalize dv Dk 8 = w at hw0 hw8 hq ⊢
  have hc : w = 0 ∨ w = 1 ∨ w = 2 ∨ w = 3 ∨ w = 4 ∨ w = 5 ∨ w = 6 ∨ w = 7 := by omega
  rcases hc with rfl | rfl | rfl | rfl | rfl | rfl | rfl | rfl
  · walk_at "Tt"
    walk_at "RetR"
    show _ = deedD (deedV Dk b r)
    rw [hq]
    rfl
  · walk_at "Ff"
    walk_at "Tt"
    walk_at "RetR"
    show _ = deedD (deedV Dk b r)
    rw [hq]
    rfl
  · walk_at "Ff"
    walk_at "Ff"
    walk_at "Tt"
    walk_at "RetR"
    show _ = deedD (deedV Dk b r)
    rw [hq]
    rfl
  all_goals
    walk_at "Ff"
    walk_at "Ff"
    walk_at "Ff"
    walk_at "RetR"
    show _ = deedD (deedV Dk b r)
    rw [hq]
    rfl
theorem e__law_deed  {tA : TA} {δ : En} {μ rest : Mp} {E : XK} {ad : Addr} {Dk : Deck} {b : Int} {r : Int} (h : EA tA δ μ [Av ad, D K (.int b), D K (.int r)] ((ad, DKo Dk) :: rest)) (hp : (2 ≤ b ∧ b ≤ 12) ∧ (1 ≤ r ∧ r ≤ 4)) : E1 (tCall (sp__law_deed K ) [] E tA) δ μ (D K (deedD (deedV Dk b r))) ((ad, DKo (deedDk Dk b r)) :: rest) := e_callK (α := (Deck) × (Int) × (Int)) (A := (fun (x : (Deck) × (Int) × (Int)) => match x with | (Dk, b, r) => [D K (.int b), D K (.int r)])) (pre := (fun (x : (Deck) × (Int) × (Int)) => match x with | (Dk, b, r) => (2 ≤ b ∧ b ≤ 12) ∧ (1 ≤ r ∧ r ≤ 4))) (D0 := (fun (x : (Deck) × (Int) × (Int)) => match x with | (Dk, b, r) => Dk)) (B := (fun (x : (Deck) × (Int) × (Int)) => match x with | (Dk, b, r) => D K (deedD (deedV Dk b r)))) (D1 := (fun (x : (Deck) × (Int) × (Int)) => match x with | (Dk, b, r) => deedDk Dk b r)) (Dk, b, r) h hp
local macro_rules | `(tactic| walk_at "call") => `(tactic| ((with_reducible apply e__law_deed); (· walk_at "ea"); (· walk_at "sd")))
def sp__law_deed_text (K : PySem.W.Frag)  : Sp := spD (α := (Deed)) (fun (x : (Deed)) => [D K (deedD x)]) (fun (x : (Deed)) => x ∈ allDeeds 12 4) (fun (x : (Deed)) => D K (tD (dtL x)))
theorem ok__law_deed_text (T : Txt K mg) : FnOk P w K mg base CX0 1 T.a__law_deed_text T.fd__law_deed_text ["deed"] (sp__law_deed_text K ) := by
  refine fn_Y T.F__law_deed_text sc__law_deed_text (fun _ => rfl) fun cdv A outer s H E hr => ⟨_, (pss_cons (ps_set (i := 1) sc__law_deed_text.nd rfl (Or.inl rfl) (pe_ix (k_ixT (K := K) rfl) (pv 0) (pe_int) (fun _ _ => rfl))) (pss_cons (ps_for PassesOwn.never rfl (pi_tup (pe_slice (k_slA (K := K) rfl) (pv 0) (po_some (pe_int)) po_none)) (pg_name (i := 2) sc__law_deed_text.nd rfl (Or.inl rfl)) (pss_one (ps_set (i := 1) sc__law_deed_text.nd rfl (Or.inl rfl) (pe_op op_add_str (pe_op op_add_str (pv 1) (pe_str)) (pe_callTy c_strI (by rfl) T.n_str (by decide +kernel) (pa_cons (pv 2) pa_nil)))))) (pss_one (ps_ret (pv 1))))), ?_⟩
  rintro x hp
  replace hp : x ∈ allDeeds 12 4 := hp
  show S1 E _ [some (D K (deedD x)), none, none] [] { nx := fun _ μ => BackY (fun x Q μ => Q = (fun (x : (Deed)) => D K (tD (dtL x))) x ∧ μ = []) x (D K .none) μ, rt := BackY (fun x Q μ => Q = (fun (x : (Deed)) => D K (tD (dtL x))) x ∧ μ = []) x }
  try simp only [cx_K, cx_KX]
  obtain ⟨ha, hdp, hdl⟩ := dp_facts hp
  have n2 := (dt_facts hp).2
  have hword : E1 (tOp (rIxT K) (tVar 0) (tC (.int 0))) [some (D K (deedD x)), none, none] [] (D K (tD (TL.tl x.word))) [] := by
    have := e_word (K := K) (x := x) (e_var (k := 0) (δ := [some (D K (deedD x)), none, none]) (μ := []) rfl)
    rw [show tD (TL.tl x.word) = .str x.word from congrArg PyData.str (S_tl x.word)]
    exact this
  refine s_let (Q := D K (tD (TL.tl x.word))) (μ1 := []) hword ?_
  simp only [List.set_cons_succ, List.set_cons_zero]
  have hfl := dtL_flat x
  have hln := n2
  rw [hfl, List.length_append] at hln
  generalize TL.tl x.word = p at hln hfl ⊢
  refine s_seq (N := fun δ μ => Le δ [none, some (D K (tD (p ++ (Deed.args x).flatMap fun i => 32 :: TL.numL i.toNat))), none] ∧ μ = []) ?_ ?_
  · refine s_for (fun j δ μ => Le δ [some (D K (deedD x)), some (D K (tD (p ++ ((Deed.args x).take j).flatMap fun i => 32 :: TL.numL i.toNat))), none] ∧ μ = []) (i_tup (K := K) (ds := (Deed.args x).map .int) (μ' := []) (by
      rw [← cut_args]
      exact e_slT (e_var rfl) (y_some (K := K) e_cI) y_none)) ⟨?_, rfl⟩ ?_ ?_
    · rw [List.take_zero, List.flatMap_nil, List.append_nil]
      walk_at "le"
    · rintro j δ2 _ hj ⟨hle2, rfl⟩
      rw [List.length_map] at hj
      have hy : (Deed.args x)[j]? = some (Deed.args x)[j] := List.getElem?_eq_getElem hj
      have hq := ha _ (List.getElem_mem hj)
      have htk : (Deed.args x).take (j + 1) = (Deed.args x).take j ++ [(Deed.args x)[j]] := by rw [List.take_add_one, hy]; rfl
      refine ⟨_, [2], G1.le (by rw [getD_map hy]; exact g_name) hle2, ?_⟩
      simp only [List.set_cons_succ, List.set_cons_zero]
      have hlen2 : (((Deed.args x).take j).flatMap fun i => 32 :: TL.numL i.toNat).length ≤ 1000 := by
        have e : ((Deed.args x).flatMap fun i => 32 :: TL.numL i.toNat) = (((Deed.args x).take j).flatMap fun i => 32 :: TL.numL i.toNat) ++ (((Deed.args x).drop j).flatMap fun i => 32 :: TL.numL i.toNat) := by
          rw [← List.flatMap_append, List.take_append_drop]
        rw [e, List.length_append] at hln
        omega
      rw [htk, List.flatMap_append, ← List.append_assoc]
      generalize ((Deed.args x).take j).flatMap (fun i => 32 :: TL.numL i.toNat) = u at hlen2 ⊢
      generalize (Deed.args x)[j] = n at hq ⊢
      have hn18 : 0 ≤ n ∧ n < 10 ^ 18 := by omega
      have n3 := numL_18 hn18
      have e1 : p ++ u ++ ([n].flatMap fun i => 32 :: TL.numL i.toNat) = (p ++ u ++ [32]) ++ TL.numL n.toNat := by simp
      rw [e1]
      exact s_set (Q := D K (tD ((p ++ u ++ [32]) ++ TL.numL n.toNat))) (μ1 := []) (e_addT (e_addT (e_var rfl) (e_cS (s := " ")) (by rw [List.length_append]; show _ + 1 ≤ 10000; omega)) (e_strN (e_var rfl) hn18) (by rw [List.length_append, List.length_append]; show _ + 1 + _ ≤ 10000; omega)) ⟨by walk_at "le", rfl⟩
    · rintro δ2 _ ⟨hle2, rfl⟩
      rw [List.length_map, List.take_length] at hle2
      exact ⟨hle2.trans (by walk_at "le"), rfl⟩
  · rintro δ2 _ ⟨hle2, rfl⟩
    refine S1.le ?_ hle2
    exact s_ret (e_var rfl) (back_D (imp_D (by rw [hfl])))
theorem e__law_deed_text  {δ : En} {μ μ' : Mp} {E : XK} {x : Deed} {tA : TA} (h : EA tA δ μ [D K (deedD x)] μ') (hp : x ∈ allDeeds 12 4) : E1 (tCall (sp__law_deed_text K ) [] E tA) δ μ (D K (tD (dtL x))) μ' := e_callD x h hp
local macro_rules | `(tactic| walk_at "call") => `(tactic| ((with_reducible apply e__law_deed_text); (· walk_at "ea"); (· walk_at "sd")))
abbrev txT := Addr × Deck
abbrev txA (K : PySem.W.Frag) (x : txT) : List Pr := match x with | (dk, D0) => [Av dk]
abbrev txM (x : txT) : Mp := match x with | (dk, D0) => [(dk, DKo D0)]
abbrev txR (K : PySem.W.Frag) (x : txT) (Q : Pr) (μ : Mp) : Prop := match x with | (dk, D0) => ∃ (l : List Nat) (D1 : Deck), Q = D K (tD l) ∧ OkT 120 360 l ∧ μ = [(dk, DKo D1)]
def sp__law_text (K : PySem.W.Frag) : Sp := sp (txA K) txM (fun _ => True) (txR K)
theorem dt_okB : ((allDeeds 12 4).all fun x => decide (cD (dtL x) ≤ 3) && (dtL x).all (· < 128)) = true := by decide +kernel
theorem tx_dt {x : Deed} (h : x ∈ allDeeds 12 4) : OkT 3 12 (dtL x) := by
  have := List.all_eq_true.mp dt_okB x h
  simp only [Bool.and_eq_true, decide_eq_true_eq] at this
  exact ⟨(dt_facts h).2, this.1, this.2⟩
theorem tx_num {i : Int} (h : 0 ≤ i ∧ i < 1000) : OkT 3 3 (TL.numL i.toNat) := by
  have h3 : (TL.numL i.toNat).length ≤ 3 := TL.numL_len (by decide) (by omega)
  refine ⟨h3, Nat.le_trans List.countP_le_length h3, List.all_eq_true.mpr fun c hc => decide_eq_true ?_⟩
  have := TL.numL_digits _ c hc
  omega
theorem tx_sep : OkT 0 2 [44, 32] := ⟨by decide, by decide, by decide⟩
theorem tx_join {N L : Nat} : ∀ {ls : List (List Nat)}, (∀ l ∈ ls, OkT N L l) → OkT (ls.length * N) (ls.length * (L + 2)) (TL.joinL [44, 32] ls)
  | [], _ => ⟨Nat.zero_le _, Nat.zero_le _, rfl⟩
  | [p], h => (h p (List.mem_singleton.mpr rfl)).mono (by simp) (by simp)
  | p :: q :: r, h => by
    rw [joinL_cons _ _ (by simp)]
    have h1 := h p (List.mem_cons_self ..)
    have h2 := tx_join (ls := q :: r) fun l hl => h l (List.mem_cons_of_mem _ hl)
    refine (h1.app (tx_sep.app h2)).mono ?_ ?_
    · have e : (p :: q :: r).length * N = (q :: r).length * N + N := Nat.succ_mul _ _
      omega
    · have e : (p :: q :: r).length * (L + 2) = (q :: r).length * (L + 2) + (L + 2) := Nat.succ_mul _ _
      omega
theorem tx_ok {l : List Nat} (h : l.all (· < 128) = true) : PyData.canLay0 (tD l) = true := by
  show (l.toArray).all (fun c => decide (c < 0x110000)) = true
  rw [List.all_toArray]
  refine List.all_eq_true.mpr fun c hc => decide_eq_true ?_
  have := of_decide_eq_true (List.all_eq_true.mp h c hc)
  omega
theorem ok__law_text (T : Txt K mg) : FnOk P w K mg base CX0 3 T.a__law_text T.fd__law_text ["deck"] (sp__law_text K) := by
  refine fn_Y T.F__law_text sc__law_text (fun _ => rfl) fun cdv A outer s H E hr => ⟨_, (pss_cons (ps_set (i := 1) sc__law_text.nd rfl (Or.inl rfl) (pe_call (ok__law_draw T) (hr.mono (by decide)) (by rfl) T.m__law_draw T.F__law_draw.kp T.b__law_draw .nil pass0 (pa_cons (pv 0) (pa_cons (pe_int) pa_nil)))) (pss_cons (ps_if (pt_cmpR op_eq (pe_call (ok__law_draw T) (hr.mono (by decide)) (by rfl) T.m__law_draw T.F__law_draw.kp T.b__law_draw .nil pass0 (pa_cons (pv 0) (pa_cons (pe_int) pa_nil))) (pe_int) (nomark _)) (pss_one (ps_set (i := 1) sc__law_text.nd rfl (Or.inl rfl) (pe_call (ok__law_draw T) (hr.mono (by decide)) (by rfl) T.m__law_draw T.F__law_draw.kp T.b__law_draw .nil pass0 (pa_cons (pv 0) (pa_cons (pe_int) pa_nil))))) (pss_nil)) (pss_cons (ps_set (i := 2) sc__law_text.nd rfl (Or.inl rfl) (pe_lst pa_nil)) (pss_cons (ps_set (i := 3) sc__law_text.nd rfl (Or.inl rfl) (pe_int)) (pss_cons (ps_for PassesOwn.never rfl (pi_range1 (by rfl) T.n_range (pa_cons (pv 1) pa_nil)) (pg_name (i := 4) sc__law_text.nd rfl (Or.inl rfl)) (pss_cons (ps_set (i := 3) sc__law_text.nd rfl (Or.inl rfl) (pe_op op_add (pv 3) (pe_ix (k_ixL (K := K) rfl) (pe_lst (pa_cons (pe_int) (pa_cons (pe_int) (pa_cons (pe_int) (pa_cons (pe_call (ok__law_draw T) (hr.mono (by decide)) (by rfl) T.m__law_draw T.F__law_draw.kp T.b__law_draw .nil pass0 (pa_cons (pv 0) (pa_cons (pe_int) pa_nil))) pa_nil))))) (pe_call (ok__law_draw T) (hr.mono (by decide)) (by rfl) T.m__law_draw T.F__law_draw.kp T.b__law_draw .nil pass0 (pa_cons (pv 0) (pa_cons (pe_int) pa_nil))) (fun _ _ => rfl)))) (pss_cons (ps_expr (pe_bm PySem.F.plainAttrs_list PySem.F.slot_list_append PySem.F.type_list_append mt_append (pv 2) (pa_cons (pe_op op_add_str (pe_op op_add_str (pe_callTy c_strI (by rfl) T.n_str (by decide +kernel) (pa_cons (pv 3) pa_nil)) (pe_str)) (pe_call (ok__law_deed_text T) (hr.mono (by decide)) (by rfl) T.m__law_deed_text T.F__law_deed_text.kp T.b__law_deed_text .nil pass0 (pa_cons (pe_call (ok__law_deed T) (hr.mono (by decide)) (by rfl) T.m__law_deed T.F__law_deed.kp T.b__law_deed .nil pass0 (pa_cons (pv 0) (pa_cons (pe_int) (pa_cons (pe_int) pa_nil)))) pa_nil))) pa_nil))) (pss_one (ps_set (i := 3) sc__law_text.nd rfl (Or.inl rfl) (pe_op op_add (pv 3) (pe_int))))))) (pss_cons (ps_if (pt_cmpR (k_eqD (K := K) rfl hr.units) (pv 2) (pe_lst pa_nil) (nomark _)) (pss_one (ps_ret (pe_str))) (pss_nil)) (pss_one (ps_ret (pe_join (pe_str) (pv 2)))))))))), ?_⟩
  rintro ⟨dk, D0⟩ -
  show S1 E _ [some (Av dk), none, none, none, none] [(dk, DKo D0)] { nx := fun _ μ => BackY (txR K) (dk, D0) (D K .none) μ, rt := BackY (txR K) (dk, D0) }
  try simp only [cx_K, cx_KX]
  have m0 : 0 ≤ dv D0 7 := dv_lo (by decide)
  have m1 : dv D0 7 < 7 := dv_hi (by decide)
  refine s_let (Q := D K (.int (dv D0 7))) (μ1 := [(dk, DKo (dn D0 7))]) (by walk_at "ev") ?_
  generalize dv D0 7 = m at m0 m1 ⊢
  generalize dn D0 7 = D1
  refine s_seq (N := fun δ μ => ∃ (m : Int) (D2 : Deck), (0 ≤ m ∧ m ≤ 20) ∧ Le δ [some (Av dk), some (D K (.int m)), none, none, none] ∧ μ = [(dk, DKo D2)]) ?_ ?_
  · have h21 : 0 < (21 : Int) ∧ (21 : Int) < 2 ^ 200 := by decide
    refine s_if (a := decide (dv D1 4 = 0)) (μ1 := [(dk, DKo (dn D1 4))]) (t_test (K := K) (e_eqI (by exact e_draw (K := K) (Dk := D1) (rest := []) (a_cons (e_var rfl) (a_cons e_cI a_nil)) (by decide)) e_cI)) (fun _ => ?_) (fun _ => s_next ⟨m, _, by omega, by walk_at "le", rfl⟩)
    have q0 : 0 ≤ dv (dn D1 4) 21 := dv_lo (by decide)
    have q1 : dv (dn D1 4) 21 < 21 := dv_hi (by decide)
    exact s_set (Q := D K (.int (dv (dn D1 4) 21))) (μ1 := [(dk, DKo (dn (dn D1 4) 21))]) (by exact e_draw (K := K) (Dk := dn D1 4) (rest := []) (a_cons (e_var rfl) (a_cons e_cI a_nil)) h21) ⟨dv (dn D1 4) 21, dn (dn D1 4) 21, ⟨q0, by omega⟩, by walk_at "le", rfl⟩
  clear m0 m1
  rintro δ' _ ⟨m, D2, hm, hle, rfl⟩
  refine S1.le ?_ hle
  clear hle
  refine s_own (o_lst (K := K) d_nil (by decide)) fun sa => ?_
  refine s_let (Q := D K (.int 0)) (μ1 := [(dk, DKo D2), (sa, OL K [])]) e_cI ?_
  simp only [List.set_cons_succ, List.set_cons_zero, List.cons_append, List.nil_append]
  refine s_seq (N := fun δ μ => ∃ (ls : List (List Nat)) (D3 : Deck), (∀ l ∈ ls, OkT 6 16 l) ∧ ls.length ≤ 20 ∧ Le δ [none, none, some (Av sa), none, none] ∧ μ = [(dk, DKo D3), (sa, OL K (ls.map tD))]) ?_ ?_
  · refine s_for (fun i δ μ => ∃ (ls : List (List Nat)) (D3 : Deck) (c : Int), (∀ l ∈ ls, OkT 6 16 l) ∧ ls.length = i ∧ (0 ≤ c ∧ c ≤ (i : Int) * 9) ∧ Le δ [some (Av dk), none, some (Av sa), some (D K (.int c)), none] ∧ μ = [(dk, DKo D3), (sa, OL K (ls.map tD))]) (i_rng1 (K := K) (i := m) (μ' := [(dk, DKo D2), (sa, OL K [])]) (e_var rfl) (by omega)) ?_ ?_ ?_
    · exact ⟨[], D2, 0, fun _ h => by (cases h), rfl, by omega, by walk_at "le", rfl⟩
    · rintro i δ2 _ hi ⟨ls, D3, c, g, hli, hc, hle, rfl⟩
      have hi20 : i < 20 := by omega
      refine ⟨_, [4], G1.le g_name hle, ?_⟩
      simp only [List.set_cons_succ, List.set_cons_zero]
      have a0 : 0 ≤ dv D3 9 := dv_lo (by decide)
      have a1 : dv D3 9 < 9 := dv_hi (by decide)
      have w0 : 0 ≤ dv (dn D3 9) 4 := dv_lo (by decide)
      have w1 : dv (dn D3 9) 4 < 4 := dv_hi (by decide)
      have hx : ∃ v : Int, ([.int 0, .int 0, .int 0, .int (dv D3 9)] : List PyData)[(dv (dn D3 9) 4).toNat]? = some (.int v) ∧ 0 ≤ v ∧ v < 9 := by
        generalize dv (dn D3 9) 4 = way at w0 w1
        have : way = 0 ∨ way = 1 ∨ way = 2 ∨ way = 3 := by omega
        rcases this with rfl | rfl | rfl | rfl
        · exact ⟨_, rfl, by omega⟩
        · exact ⟨_, rfl, by omega⟩
        · exact ⟨_, rfl, by omega⟩
        · exact ⟨_, rfl, by omega⟩
      obtain ⟨v, hx, hv⟩ := hx
      have h9 : 0 < (9 : Int) ∧ (9 : Int) < 2 ^ 200 := by decide
      have h4 : 0 < (4 : Int) ∧ (4 : Int) < 2 ^ 200 := by decide
      refine s_let (Q := D K (.int (c + v))) (μ1 := [(dk, DKo (dn (dn D3 9) 4)), (sa, OL K (ls.map tD))]) (e_add (e_var rfl) (e_ixL (K := K) (i := dv (dn D3 9) 4) (P1 := D K (.list [.int 0, .int 0, .int 0, .int (dv D3 9)])) (μ1 := [(dk, DKo (dn D3 9)), (sa, OL K (ls.map tD))]) (ds := [.int 0, .int 0, .int 0, .int (dv D3 9)]) (EO.frz (o_lst (K := K) (d_cons e_cI (d_cons e_cI (d_cons e_cI (d_cons (by exact e_draw (K := K) (Dk := D3) (rest := [(sa, OL K (ls.map tD))]) (a_cons (e_var rfl) (a_cons e_cI a_nil)) h9) d_nil)))) (by show 4 ≤ 100000; decide))) (by exact e_draw (K := K) (Dk := dn D3 9) (rest := [(sa, OL K (ls.map tD))]) (a_cons (e_var rfl) (a_cons e_cI a_nil)) h4) lr_D (atI_int w0 hx))) ?_
      simp only [List.set_cons_succ, List.set_cons_zero]
      generalize dn (dn D3 9) 4 = D5
      have hdm := deedV_mem (D := D5) (b := 12) (r := 4) (by decide) (by decide)
      have hcv : 0 ≤ c + v ∧ c + v < 1000 := by omega
      have o1 := tx_num hcv
      have o2 := tx_dt hdm
      have o3 : OkT 0 1 [32] := ⟨by decide, by decide, by decide⟩
      have o4 : OkT 6 16 ((TL.numL (c + v).toNat ++ [32]) ++ dtL (deedV D5 12 4)) := (o1.app o3).app o2
      have l1 := o1.len
      have l2 := o2.len
      refine s_do (e_append (K := K) 1 (te := tVar 2) (ad := sa) (d := tD ((TL.numL (c + v).toNat ++ [32]) ++ dtL (deedV D5 12 4))) (μ1 := [(dk, DKo (deedDk D5 12 4)), (sa, OL K (ls.map tD))]) (ds := ls.map tD) (e_var rfl) (e_addT (μ1 := [(dk, DKo D5), (sa, OL K (ls.map tD))]) (e_addT (e_strN (e_var rfl) (by omega)) (e_cS (s := " ")) (by show _ + 1 ≤ 10000; omega)) (by exact e__law_deed_text (x := deedV D5 12 4) (a_cons (by exact e__law_deed (b := 12) (r := 4) (rest := [(sa, OL K (ls.map tD))]) (a_cons (e_var rfl) (a_cons e_cI (a_cons e_cI a_nil))) (by decide)) a_nil) hdm) (by rw [List.length_append]; show _ + 1 + _ ≤ 10000; omega)) ⟨1, _, rfl⟩ rfl (by rw [List.length_map]; omega)) ?_
      simp only [List.set_cons_succ, List.set_cons_zero]
      refine s_set (Q := D K (.int (c + v + 1))) (μ1 := [(dk, DKo (deedDk D5 12 4)), (sa, OL K (ls.map tD ++ [tD ((TL.numL (c + v).toNat ++ [32]) ++ dtL (deedV D5 12 4))]))]) (e_add (e_var rfl) e_cI) ⟨ls ++ [(TL.numL (c + v).toNat ++ [32]) ++ dtL (deedV D5 12 4)], deedDk D5 12 4, c + v + 1, ?_, ?_, ?_, by walk_at "le", ?_⟩
      · intro s hs
        rcases List.mem_append.mp hs with hs | hs
        · exact g s hs
        · obtain rfl := List.mem_singleton.mp hs
          exact o4
      · rw [List.length_append, hli]
        rfl
      · omega
      · rw [List.map_append]
        rfl
    · rintro δ2 _ ⟨ls, D3, c, g, hli, _, hle, rfl⟩
      exact ⟨ls, D3, g, by omega, hle.trans (by walk_at "le"), rfl⟩
  · rintro δ2 _ ⟨ls, D3, g, hli, hle, rfl⟩
    refine S1.le ?_ hle
    have hsh : SeqAt.shaped (.list (ls.map tD)) = true := (sh_lst (n := 0) fun d hd => by
      obtain ⟨s, hs, rfl⟩ := List.mem_map.mp hd
      exact sh_str (tx_ok (g s hs).asc)).ok
    refine s_ifr (a := (ls.map tD).isEmpty) (μ1 := [(dk, DKo D3), (sa, OL K (ls.map tD))]) (t_test (e_eqNil (e_var (P := Av sa) rfl) (lr_O 1 rfl) hsh)) (fun h => ?_) (fun h => ?_)
    · exact s_ret (Q := D K (tD [45])) e_cS (backY_mk (R := txR K) ⟨[45], D3, rfl, ⟨by decide, by decide, by decide⟩, rfl⟩ (Imp.refl _) (List.sublist_append_left [_] [_]))
    · have o := tx_join g
      refine s_ret (Q := D K (tD (TL.joinL [44, 32] ls))) (μ1 := [(dk, DKo D3), (sa, OL K (ls.map tD))]) (e_joinS (K := K) (a := [44, 32]) (ls := ls) (N := 20) (B := 16) (e_cS (s := ", ")) (e_var rfl) (lr_O 1 rfl) hli (fun l hl => (g l hl).len) (by decide)) (backY_mk (R := txR K) ⟨TL.joinL [44, 32] ls, D3, rfl, o.mono (by omega) (by omega), rfl⟩ (Imp.refl _) (List.sublist_append_left [_] [_]))
theorem y__law_text {δ : En} {μ : Mp} {E : XK} {dk : Addr} {D0 : Deck} {rest : Mp} {tA : TA} (h : EA tA δ μ [Av dk] ((dk, DKo D0) :: rest)) :
    EY (tCall (sp__law_text K) [] E tA) δ μ (fun Q μ' => ∃ (l : List Nat) (D1 : Deck), Q = D K (tD l) ∧ OkT 120 360 l ∧ μ' = (dk, DKo D1) :: rest) :=
  (y_call (A := txA K) (m := txM) (pre := fun _ => True) (R := txR K) (rest := rest) (dk, D0) h trivial).imp fun Q μ' z => by
    obtain ⟨_, ⟨l, D1, h1, h2, rfl⟩, rfl⟩ := z
    exact ⟨l, D1, h1, h2, rfl⟩
theorem la_ok {N L : Nat} {l : List Nat} (g : OkT N L l) (h1 : N ≤ 640) (h2 : L ≤ 3000) : OkV (tD l) := fun s e => by
  cases e
  have e : TL.tl (S l) = l := by simp [TL.tl]
  rw [e]
  exact ⟨Nat.le_trans g.len h2, Nat.le_trans g.dig h1⟩
theorem ok_law (T : Txt K mg) : FnOk P w K mg base CX0 7 T.a_law T.fd_law ["script"] (spec (lawPre K) lawPost) := by
  refine law_Y T.F_law sc_law rfl fun cdv A outer s H E hr => ⟨_, (pss_cons (ps_for PassesOwn.never rfl (pi_list (pe_call (ok__law_cells T) (hr.mono (by decide)) (by rfl) T.m__law_cells T.F__law_cells.kp T.b__law_cells .nil pass0 (pa_cons (pv 0) pa_nil))) (pg_name (i := 1) sc_law.nd rfl (Or.inl rfl)) (pss_cons (ps_set (i := 2) sc_law.nd rfl (Or.inl rfl) (pe_call (ok__law_deck T) (hr.mono (by decide)) (by rfl) T.m__law_deck T.F__law_deck.kp T.b__law_deck .nil pass0 (pa_cons (pv 1) pa_nil))) (pss_cons (ps_set (i := 3) sc_law.nd rfl (Or.inl rfl) (pe_call (ok__law_draw T) (hr.mono (by decide)) (by rfl) T.m__law_draw T.F__law_draw.kp T.b__law_draw .nil pass0 (pa_cons (pv 2) (pa_cons (pe_int) pa_nil)))) (pss_cons (ps_set (i := 4) sc_law.nd rfl (Or.inl rfl) (pe_call (ok__law_text T) (hr.mono (by decide)) (by rfl) T.m__law_text T.F__law_text.kp T.b__law_text .nil pass0 (pa_cons (pv 2) pa_nil))) (pss_cons (ps_set (i := 5) sc_law.nd rfl (Or.inl rfl) (pe_call (ok__law_spoilt T) (hr.mono (by decide)) (by rfl) T.m__law_spoilt T.F__law_spoilt.kp T.b__law_spoilt .nil pass0 (pa_cons (pv 2) (pa_cons (pv 4) pa_nil)))) (pss_cons (ps_if (pt_cmpR op_eq (pv 3) (pe_int) (nomark _)) (pss_one (ps_set (i := 5) sc_law.nd rfl (Or.inl rfl) (pe_call (ok__law_spoilt T) (hr.mono (by decide)) (by rfl) T.m__law_spoilt T.F__law_spoilt.kp T.b__law_spoilt .nil pass0 (pa_cons (pv 2) (pa_cons (pv 5) pa_nil))))) (pss_nil)) (pss_cons (ps_if (pt_cmpR op_eq (pv 3) (pe_int) (nomark _)) (pss_one (ps_set (i := 5) sc_law.nd rfl (Or.inl rfl) (pe_call (ok__law_near T) (hr.mono (by decide)) (by rfl) T.m__law_near T.F__law_near.kp T.b__law_near .nil pass0 (pa_cons (pv 2) pa_nil)))) (pss_nil)) (pss_one (ps_if (PW.pt (pw_or (pt_not (pt_val (pe_call (ok__law_right T) (hr.mono (by decide)) (by rfl) T.m__law_right T.F__law_right.kp T.b__law_right .nil pass0 (pa_cons (pv 4) pa_nil)))) (pw_or (pt_not (pt_val (pe_call (ok__law_right T) (hr.mono (by decide)) (by rfl) T.m__law_right T.F__law_right.kp T.b__law_right .nil pass0 (pa_cons (pv 5) pa_nil)))) (pw_or1 (pt_not (pt_val (pe_call (ok__law_right T) (hr.mono (by decide)) (by rfl) T.m__law_right T.F__law_right.kp T.b__law_right .nil pass0 (pa_cons (pv 4) pa_nil)))))))) (pss_one (ps_ret (pe_bl))) (pss_nil)))))))))) (pss_one (ps_ret (pe_bl)))), ?_⟩
  intro ns hns
  show S1 E _ [some (D K (.list (ns.map .int))), none, none, none, none, none] [] { nx := fun _ _ => False, rt := fun Q _ => Q = D K (.bool true) }
  try simp only [cx_K, cx_KX]
  refine s_seq (N := fun _ _ => True) (s_for (fun i δ μ => Le δ [some (D K (.list (ns.map .int))), none, none, none, none, none]) (i_list (μ' := []) (by exact e_cells (by walk_at "ea") hns)) (by walk_at "le") ?_ (fun _ _ _ => trivial)) fun _ _ _ => s_ret (e_cB (K := K)) rfl
  rintro i δ' μ' hi hle
  rw [List.length_map] at hi
  refine ⟨_, [1], G1.le (by rw [getD_map (x := (cellsOf ns)[i]) (List.getElem?_eq_getElem hi)]; exact g_name) hle, ?_⟩
  refine s_less (μ' := []) (List.nil_sublist _) ?_
  generalize (cellsOf ns)[i] = c
  refine s_letY (y_deck (by walk_at "ea")) ?_
  rintro _ _ ⟨dk, rfl, rfl⟩
  generalize deckOf c = Dk
  simp only [List.set_cons_succ, List.set_cons_zero, List.nil_append, List.cons_append]
  refine s_let (Q := D K (.int (dv Dk 4))) (μ1 := [(dk, DKo (dn Dk 4))]) (by walk_at "ev") ?_
  generalize dv Dk 4 = way
  generalize dn Dk 4 = D1
  refine s_letY (y__law_text (rest := []) (D0 := D1) (a_cons (e_var rfl) a_nil)) ?_
  rintro _ _ ⟨l, D2, rfl, g, rfl⟩
  simp only [List.set_cons_succ, List.set_cons_zero]
  refine s_letY (y__law_spoilt (rest := []) (D0 := D2) 120 360 (a_cons (e_var rfl) (a_cons (e_var rfl) a_nil)) g (by decide)) ?_
  rintro _ _ ⟨l1, D3, rfl, g1, rfl⟩
  simp only [List.set_cons_succ, List.set_cons_zero]
  have hl := la_ok g (by decide) (by decide)
  refine s_seq (N := fun δ μ => ∃ (d : PyData) (D4 : Deck), OkV d ∧ Le δ [some (D K (.list (ns.map .int))), none, some (Av dk), some (D K (.int way)), some (D K (tD l)), some (D K d)] ∧ μ = [(dk, DKo D4)]) ?_ ?_
  · refine s_if (a := decide (way = 1)) (μ1 := [(dk, DKo D3)]) (t_test (e_eqI (e_var rfl) e_cI)) (fun _ => ?_) (fun _ => s_next ⟨tD l1, D3, la_ok g1 (by decide) (by decide), by walk_at "le", rfl⟩)
    refine s_setY (y__law_spoilt (rest := []) (D0 := D3) _ _ (a_cons (e_var rfl) (a_cons (e_var rfl) a_nil)) g1 (by decide)) ?_
    rintro _ _ ⟨l2, D4, rfl, g2, rfl⟩
    exact ⟨tD l2, D4, la_ok g2 (by decide) (by decide), by walk_at "le", rfl⟩
  rintro δ2 _ ⟨d, D4, hd, hle2, rfl⟩
  refine S1.le ?_ hle2
  clear hle2 hle g1 D3
  refine s_seq (N := fun δ μ => ∃ (d : PyData) (D4 : Deck), OkV d ∧ Le δ [some (D K (.list (ns.map .int))), none, some (Av dk), some (D K (.int way)), some (D K (tD l)), some (D K d)] ∧ μ = [(dk, DKo D4)]) ?_ ?_
  · refine s_if (a := decide (way = 2)) (μ1 := [(dk, DKo D4)]) (t_test (e_eqI (e_var rfl) e_cI)) (fun _ => ?_) (fun _ => s_next ⟨d, D4, hd, by walk_at "le", rfl⟩)
    refine s_setY (y__law_near (rest := []) (D0 := D4) (a_cons (e_var rfl) a_nil)) ?_
    rintro _ _ ⟨d2, D5, rfl, g2, rfl⟩
    exact ⟨d2, D5, g2, by walk_at "le", rfl⟩
  rintro δ2 _ ⟨d, D4, hd, hle2, rfl⟩
  refine S1.le ?_ hle2
  clear hle2
  refine s_less (μ' := []) (List.nil_sublist _) ?_
  exact s_if (a := !true || (!true || !true)) (μ1 := []) (t_or (t_not (t_B (K := K) (by exact e__law_right (d := tD l) (a_cons (e_var rfl) a_nil) hl))) fun _ => t_or (t_not (t_B (K := K) (by exact e__law_right (d := d) (a_cons (e_var rfl) a_nil) hd))) fun _ => t_not (t_B (K := K) (by exact e__law_right (d := tD l) (a_cons (e_var rfl) a_nil) hl))) (fun h => by simp at h) (fun _ => s_next (by walk_at "le"))
end
def txt_mk {K : PySem.W.Frag} {h : Heap} {mg : Str → Option Value} (X : K.In h) (G : h.Ns mainGlobals mg) {c_SlipError : Addr} {c_InvalidSheet : Addr} {c_InvalidColumn : Addr} {c_InvalidKind : Addr} {c_InvalidLot : Addr} {c_NotAlike : Addr} {c_NotPossible : Addr} {c_TooMany : Addr} {c_Waits : Addr} {c_InvalidText : Addr} {c_InvalidCommand : Addr} {c_NothingToUndo : Addr} {c_NotReady : Addr} {c_InvalidSlips : Addr} {a__law_cells : Addr} {oc__law_cells kV__law_cells dc__law_cells pm__law_cells cd__law_cells ct__law_cells : Value} {od__law_cells an__law_cells : Option Addr} {sl__law_cells : Array (Option Value)} {a__law_deck : Addr} {oc__law_deck kV__law_deck dc__law_deck pm__law_deck cd__law_deck ct__law_deck : Value} {od__law_deck an__law_deck : Option Addr} {sl__law_deck : Array (Option Value)} {a__law_draw : Addr} {oc__law_draw kV__law_draw dc__law_draw pm__law_draw cd__law_draw ct__law_draw : Value} {od__law_draw an__law_draw : Option Addr} {sl__law_draw : Array (Option Value)} {a__law_near : Addr} {oc__law_near kV__law_near dc__law_near pm__law_near cd__law_near ct__law_near : Value} {od__law_near an__law_near : Option Addr} {sl__law_near : Array (Option Value)} {a__law_deed_texts : Addr} {oc__law_deed_texts kV__law_deed_texts dc__law_deed_texts pm__law_deed_texts cd__law_deed_texts ct__law_deed_texts : Value} {od__law_deed_texts an__law_deed_texts : Option Addr} {sl__law_deed_texts : Array (Option Value)} {a__law_number : Addr} {oc__law_number kV__law_number dc__law_number pm__law_number cd__law_number ct__law_number : Value} {od__law_number an__law_number : Option Addr} {sl__law_number : Array (Option Value)} {a__law_is_text : Addr} {oc__law_is_text kV__law_is_text dc__law_is_text pm__law_is_text cd__law_is_text ct__law_is_text : Value} {od__law_is_text an__law_is_text : Option Addr} {sl__law_is_text : Array (Option Value)} {a_deeds_of : Addr} {oc_deeds_of kV_deeds_of dc_deeds_of pm_deeds_of cd_deeds_of ct_deeds_of : Value} {od_deeds_of an_deeds_of : Option Addr} {sl_deeds_of : Array (Option Value)} {a_show_integer : Addr} {oc_show_integer kV_show_integer dc_show_integer pm_show_integer cd_show_integer ct_show_integer : Value} {od_show_integer an_show_integer : Option Addr} {sl_show_integer : Array (Option Value)} {a_show_deed : Addr} {oc_show_deed kV_show_deed dc_show_deed pm_show_deed cd_show_deed ct_show_deed : Value} {od_show_deed an_show_deed : Option Addr} {sl_show_deed : Array (Option Value)} {a_read_deed : Addr} {oc_read_deed kV_read_deed dc_read_deed pm_read_deed cd_read_deed ct_read_deed : Value} {od_read_deed an_read_deed : Option Addr} {sl_read_deed : Array (Option Value)} {a_read_integer : Addr} {oc_read_integer kV_read_integer dc_read_integer pm_read_integer cd_read_integer ct_read_integer : Value} {od_read_integer an_read_integer : Option Addr} {sl_read_integer : Array (Option Value)} {a_read_slips : Addr} {oc_read_slips kV_read_slips dc_read_slips pm_read_slips cd_read_slips ct_read_slips : Value} {od_read_slips an_read_slips : Option Addr} {sl_read_slips : Array (Option Value)} {a__law_read : Addr} {oc__law_read kV__law_read dc__law_read pm__law_read cd__law_read ct__law_read : Value} {od__law_read an__law_read : Option Addr} {sl__law_read : Array (Option Value)} {a_show_slips : Addr} {oc_show_slips kV_show_slips dc_show_slips pm_show_slips cd_show_slips ct_show_slips : Value} {od_show_slips an_show_slips : Option Addr} {sl_show_slips : Array (Option Value)} {a__law_right : Addr} {oc__law_right kV__law_right dc__law_right pm__law_right cd__law_right ct__law_right : Value} {od__law_right an__law_right : Option Addr} {sl__law_right : Array (Option Value)} {a__law_spoilt : Addr} {oc__law_spoilt kV__law_spoilt dc__law_spoilt pm__law_spoilt cd__law_spoilt ct__law_spoilt : Value} {od__law_spoilt an__law_spoilt : Option Addr} {sl__law_spoilt : Array (Option Value)} {a__law_deed : Addr} {oc__law_deed kV__law_deed dc__law_deed pm__law_deed cd__law_deed ct__law_deed : Value} {od__law_deed an__law_deed : Option Addr} {sl__law_deed : Array (Option Value)} {a__law_deed_text : Addr} {oc__law_deed_text kV__law_deed_text dc__law_deed_text pm__law_deed_text cd__law_deed_text ct__law_deed_text : Value} {od__law_deed_text an__law_deed_text : Option Addr} {sl__law_deed_text : Array (Option Value)} {a__law_text : Addr} {oc__law_text kV__law_text dc__law_text pm__law_text cd__law_text ct__law_text : Value} {od__law_text an__law_text : Option Addr} {sl__law_text : Array (Option Value)} {a_law : Addr} {oc_law kV_law dc_law pm_law cd_law ct_law : Value} {od_law an_law : Option Addr} {sl_law : Array (Option Value)} {tk_DIGITS : Tok} {tk_MOST_BASE : Tok} {tk_MOST_ROWS : Tok} {tk_PIECE : Tok}
    (ac_SlipError : PySem.W.nsIn K mainGlobals "SlipError" = some (some (.ref c_SlipError)))
    (ac_InvalidSheet : PySem.W.nsIn K mainGlobals "InvalidSheet" = some (some (.ref c_InvalidSheet)))
    (ac_InvalidColumn : PySem.W.nsIn K mainGlobals "InvalidColumn" = some (some (.ref c_InvalidColumn)))
    (ac_InvalidKind : PySem.W.nsIn K mainGlobals "InvalidKind" = some (some (.ref c_InvalidKind)))
    (ac_InvalidLot : PySem.W.nsIn K mainGlobals "InvalidLot" = some (some (.ref c_InvalidLot)))
    (ac_NotAlike : PySem.W.nsIn K mainGlobals "NotAlike" = some (some (.ref c_NotAlike)))
    (ac_NotPossible : PySem.W.nsIn K mainGlobals "NotPossible" = some (some (.ref c_NotPossible)))
    (ac_TooMany : PySem.W.nsIn K mainGlobals "TooMany" = some (some (.ref c_TooMany)))
    (ac_Waits : PySem.W.nsIn K mainGlobals "Waits" = some (some (.ref c_Waits)))
    (ac_InvalidText : PySem.W.nsIn K mainGlobals "InvalidText" = some (some (.ref c_InvalidText)))
    (ac_InvalidCommand : PySem.W.nsIn K mainGlobals "InvalidCommand" = some (some (.ref c_InvalidCommand)))
    (ac_NothingToUndo : PySem.W.nsIn K mainGlobals "NothingToUndo" = some (some (.ref c_NothingToUndo)))
    (ac_NotReady : PySem.W.nsIn K mainGlobals "NotReady" = some (some (.ref c_NotReady)))
    (ac_InvalidSlips : PySem.W.nsIn K mainGlobals "InvalidSlips" = some (some (.ref c_InvalidSlips)))
    (af__law_cells : PySem.W.nsIn K mainGlobals "_law_cells" = some (some (.ref a__law_cells)))
    (lf__law_cells : K.lookup a__law_cells = some ⟨oc__law_cells, od__law_cells, .func (PySem.W.fnOf "_law_cells" "_law_cells" (defArgs s__law_cells) (defBody s__law_cells) (defScope s__law_cells) .none kV__law_cells dc__law_cells pm__law_cells an__law_cells cd__law_cells ct__law_cells), sl__law_cells⟩)
    (cf__law_cells : PySem.W.codeIn K cd__law_cells "_law_cells" = true)
    (kf__law_cells : PySem.W.keepIn K (.ref a__law_cells) = true)
    (af__law_deck : PySem.W.nsIn K mainGlobals "_law_deck" = some (some (.ref a__law_deck)))
    (lf__law_deck : K.lookup a__law_deck = some ⟨oc__law_deck, od__law_deck, .func (PySem.W.fnOf "_law_deck" "_law_deck" (defArgs s__law_deck) (defBody s__law_deck) (defScope s__law_deck) .none kV__law_deck dc__law_deck pm__law_deck an__law_deck cd__law_deck ct__law_deck), sl__law_deck⟩)
    (cf__law_deck : PySem.W.codeIn K cd__law_deck "_law_deck" = true)
    (kf__law_deck : PySem.W.keepIn K (.ref a__law_deck) = true)
    (af__law_draw : PySem.W.nsIn K mainGlobals "_law_draw" = some (some (.ref a__law_draw)))
    (lf__law_draw : K.lookup a__law_draw = some ⟨oc__law_draw, od__law_draw, .func (PySem.W.fnOf "_law_draw" "_law_draw" (defArgs s__law_draw) (defBody s__law_draw) (defScope s__law_draw) .none kV__law_draw dc__law_draw pm__law_draw an__law_draw cd__law_draw ct__law_draw), sl__law_draw⟩)
    (cf__law_draw : PySem.W.codeIn K cd__law_draw "_law_draw" = true)
    (kf__law_draw : PySem.W.keepIn K (.ref a__law_draw) = true)
    (af__law_near : PySem.W.nsIn K mainGlobals "_law_near" = some (some (.ref a__law_near)))
    (lf__law_near : K.lookup a__law_near = some ⟨oc__law_near, od__law_near, .func (PySem.W.fnOf "_law_near" "_law_near" (defArgs s__law_near) (defBody s__law_near) (defScope s__law_near) .none kV__law_near dc__law_near pm__law_near an__law_near cd__law_near ct__law_near), sl__law_near⟩)
    (cf__law_near : PySem.W.codeIn K cd__law_near "_law_near" = true)
    (kf__law_near : PySem.W.keepIn K (.ref a__law_near) = true)
    (af__law_deed_texts : PySem.W.nsIn K mainGlobals "_law_deed_texts" = some (some (.ref a__law_deed_texts)))
    (lf__law_deed_texts : K.lookup a__law_deed_texts = some ⟨oc__law_deed_texts, od__law_deed_texts, .func (PySem.W.fnOf "_law_deed_texts" "_law_deed_texts" (defArgs s__law_deed_texts) (defBody s__law_deed_texts) (defScope s__law_deed_texts) .none kV__law_deed_texts dc__law_deed_texts pm__law_deed_texts an__law_deed_texts cd__law_deed_texts ct__law_deed_texts), sl__law_deed_texts⟩)
    (cf__law_deed_texts : PySem.W.codeIn K cd__law_deed_texts "_law_deed_texts" = true)
    (kf__law_deed_texts : PySem.W.keepIn K (.ref a__law_deed_texts) = true)
    (af__law_number : PySem.W.nsIn K mainGlobals "_law_number" = some (some (.ref a__law_number)))
    (lf__law_number : K.lookup a__law_number = some ⟨oc__law_number, od__law_number, .func (PySem.W.fnOf "_law_number" "_law_number" (defArgs s__law_number) (defBody s__law_number) (defScope s__law_number) .none kV__law_number dc__law_number pm__law_number an__law_number cd__law_number ct__law_number), sl__law_number⟩)
    (cf__law_number : PySem.W.codeIn K cd__law_number "_law_number" = true)
    (kf__law_number : PySem.W.keepIn K (.ref a__law_number) = true)
    (af__law_is_text : PySem.W.nsIn K mainGlobals "_law_is_text" = some (some (.ref a__law_is_text)))
    (lf__law_is_text : K.lookup a__law_is_text = some ⟨oc__law_is_text, od__law_is_text, .func (PySem.W.fnOf "_law_is_text" "_law_is_text" (defArgs s__law_is_text) (defBody s__law_is_text) (defScope s__law_is_text) .none kV__law_is_text dc__law_is_text pm__law_is_text an__law_is_text cd__law_is_text ct__law_is_text), sl__law_is_text⟩)
    (cf__law_is_text : PySem.W.codeIn K cd__law_is_text "_law_is_text" = true)
    (kf__law_is_text : PySem.W.keepIn K (.ref a__law_is_text) = true)
    (af_deeds_of : PySem.W.nsIn K mainGlobals "deeds_of" = some (some (.ref a_deeds_of)))
    (lf_deeds_of : K.lookup a_deeds_of = some ⟨oc_deeds_of, od_deeds_of, .func (PySem.W.fnOf "deeds_of" "deeds_of" (defArgs s_deeds_of) (defBody s_deeds_of) (defScope s_deeds_of) .none kV_deeds_of dc_deeds_of pm_deeds_of an_deeds_of cd_deeds_of ct_deeds_of), sl_deeds_of⟩)
    (cf_deeds_of : PySem.W.codeIn K cd_deeds_of "deeds_of" = true)
    (kf_deeds_of : PySem.W.keepIn K (.ref a_deeds_of) = true)
    (af_show_integer : PySem.W.nsIn K mainGlobals "show_integer" = some (some (.ref a_show_integer)))
    (lf_show_integer : K.lookup a_show_integer = some ⟨oc_show_integer, od_show_integer, .func (PySem.W.fnOf "show_integer" "show_integer" (defArgs s_show_integer) (defBody s_show_integer) (defScope s_show_integer) .none kV_show_integer dc_show_integer pm_show_integer an_show_integer cd_show_integer ct_show_integer), sl_show_integer⟩)
    (cf_show_integer : PySem.W.codeIn K cd_show_integer "show_integer" = true)
    (kf_show_integer : PySem.W.keepIn K (.ref a_show_integer) = true)
    (af_show_deed : PySem.W.nsIn K mainGlobals "show_deed" = some (some (.ref a_show_deed)))
    (lf_show_deed : K.lookup a_show_deed = some ⟨oc_show_deed, od_show_deed, .func (PySem.W.fnOf "show_deed" "show_deed" (defArgs s_show_deed) (defBody s_show_deed) (defScope s_show_deed) .none kV_show_deed dc_show_deed pm_show_deed an_show_deed cd_show_deed ct_show_deed), sl_show_deed⟩)
    (cf_show_deed : PySem.W.codeIn K cd_show_deed "show_deed" = true)
    (kf_show_deed : PySem.W.keepIn K (.ref a_show_deed) = true)
    (af_read_deed : PySem.W.nsIn K mainGlobals "read_deed" = some (some (.ref a_read_deed)))
    (lf_read_deed : K.lookup a_read_deed = some ⟨oc_read_deed, od_read_deed, .func (PySem.W.fnOf "read_deed" "read_deed" (defArgs s_read_deed) (defBody s_read_deed) (defScope s_read_deed) .none kV_read_deed dc_read_deed pm_read_deed an_read_deed cd_read_deed ct_read_deed), sl_read_deed⟩)
    (cf_read_deed : PySem.W.codeIn K cd_read_deed "read_deed" = true)
    (kf_read_deed : PySem.W.keepIn K (.ref a_read_deed) = true)
    (af_read_integer : PySem.W.nsIn K mainGlobals "read_integer" = some (some (.ref a_read_integer)))
    (lf_read_integer : K.lookup a_read_integer = some ⟨oc_read_integer, od_read_integer, .func (PySem.W.fnOf "read_integer" "read_integer" (defArgs s_read_integer) (defBody s_read_integer) (defScope s_read_integer) .none kV_read_integer dc_read_integer pm_read_integer an_read_integer cd_read_integer ct_read_integer), sl_read_integer⟩)
    (cf_read_integer : PySem.W.codeIn K cd_read_integer "read_integer" = true)
    (kf_read_integer : PySem.W.keepIn K (.ref a_read_integer) = true)
    (af_read_slips : PySem.W.nsIn K mainGlobals "read_slips" = some (some (.ref a_read_slips)))
    (lf_read_slips : K.lookup a_read_slips = some ⟨oc_read_slips, od_read_slips, .func (PySem.W.fnOf "read_slips" "read_slips" (defArgs s_read_slips) (defBody s_read_slips) (defScope s_read_slips) .none kV_read_slips dc_read_slips pm_read_slips an_read_slips cd_read_slips ct_read_slips), sl_read_slips⟩)
    (cf_read_slips : PySem.W.codeIn K cd_read_slips "read_slips" = true)
    (kf_read_slips : PySem.W.keepIn K (.ref a_read_slips) = true)
    (af__law_read : PySem.W.nsIn K mainGlobals "_law_read" = some (some (.ref a__law_read)))
    (lf__law_read : K.lookup a__law_read = some ⟨oc__law_read, od__law_read, .func (PySem.W.fnOf "_law_read" "_law_read" (defArgs s__law_read) (defBody s__law_read) (defScope s__law_read) .none kV__law_read dc__law_read pm__law_read an__law_read cd__law_read ct__law_read), sl__law_read⟩)
    (cf__law_read : PySem.W.codeIn K cd__law_read "_law_read" = true)
    (kf__law_read : PySem.W.keepIn K (.ref a__law_read) = true)
    (af_show_slips : PySem.W.nsIn K mainGlobals "show_slips" = some (some (.ref a_show_slips)))
    (lf_show_slips : K.lookup a_show_slips = some ⟨oc_show_slips, od_show_slips, .func (PySem.W.fnOf "show_slips" "show_slips" (defArgs s_show_slips) (defBody s_show_slips) (defScope s_show_slips) .none kV_show_slips dc_show_slips pm_show_slips an_show_slips cd_show_slips ct_show_slips), sl_show_slips⟩)
    (cf_show_slips : PySem.W.codeIn K cd_show_slips "show_slips" = true)
    (kf_show_slips : PySem.W.keepIn K (.ref a_show_slips) = true)
    (af__law_right : PySem.W.nsIn K mainGlobals "_law_right" = some (some (.ref a__law_right)))
    (lf__law_right : K.lookup a__law_right = some ⟨oc__law_right, od__law_right, .func (PySem.W.fnOf "_law_right" "_law_right" (defArgs s__law_right) (defBody s__law_right) (defScope s__law_right) .none kV__law_right dc__law_right pm__law_right an__law_right cd__law_right ct__law_right), sl__law_right⟩)
    (cf__law_right : PySem.W.codeIn K cd__law_right "_law_right" = true)
    (kf__law_right : PySem.W.keepIn K (.ref a__law_right) = true)
    (af__law_spoilt : PySem.W.nsIn K mainGlobals "_law_spoilt" = some (some (.ref a__law_spoilt)))
    (lf__law_spoilt : K.lookup a__law_spoilt = some ⟨oc__law_spoilt, od__law_spoilt, .func (PySem.W.fnOf "_law_spoilt" "_law_spoilt" (defArgs s__law_spoilt) (defBody s__law_spoilt) (defScope s__law_spoilt) .none kV__law_spoilt dc__law_spoilt pm__law_spoilt an__law_spoilt cd__law_spoilt ct__law_spoilt), sl__law_spoilt⟩)
    (cf__law_spoilt : PySem.W.codeIn K cd__law_spoilt "_law_spoilt" = true)
    (kf__law_spoilt : PySem.W.keepIn K (.ref a__law_spoilt) = true)
    (af__law_deed : PySem.W.nsIn K mainGlobals "_law_deed" = some (some (.ref a__law_deed)))
    (lf__law_deed : K.lookup a__law_deed = some ⟨oc__law_deed, od__law_deed, .func (PySem.W.fnOf "_law_deed" "_law_deed" (defArgs s__law_deed) (defBody s__law_deed) (defScope s__law_deed) .none kV__law_deed dc__law_deed pm__law_deed an__law_deed cd__law_deed ct__law_deed), sl__law_deed⟩)
    (cf__law_deed : PySem.W.codeIn K cd__law_deed "_law_deed" = true)
    (kf__law_deed : PySem.W.keepIn K (.ref a__law_deed) = true)
    (af__law_deed_text : PySem.W.nsIn K mainGlobals "_law_deed_text" = some (some (.ref a__law_deed_text)))
    (lf__law_deed_text : K.lookup a__law_deed_text = some ⟨oc__law_deed_text, od__law_deed_text, .func (PySem.W.fnOf "_law_deed_text" "_law_deed_text" (defArgs s__law_deed_text) (defBody s__law_deed_text) (defScope s__law_deed_text) .none kV__law_deed_text dc__law_deed_text pm__law_deed_text an__law_deed_text cd__law_deed_text ct__law_deed_text), sl__law_deed_text⟩)
    (cf__law_deed_text : PySem.W.codeIn K cd__law_deed_text "_law_deed_text" = true)
    (kf__law_deed_text : PySem.W.keepIn K (.ref a__law_deed_text) = true)
    (af__law_text : PySem.W.nsIn K mainGlobals "_law_text" = some (some (.ref a__law_text)))
    (lf__law_text : K.lookup a__law_text = some ⟨oc__law_text, od__law_text, .func (PySem.W.fnOf "_law_text" "_law_text" (defArgs s__law_text) (defBody s__law_text) (defScope s__law_text) .none kV__law_text dc__law_text pm__law_text an__law_text cd__law_text ct__law_text), sl__law_text⟩)
    (cf__law_text : PySem.W.codeIn K cd__law_text "_law_text" = true)
    (kf__law_text : PySem.W.keepIn K (.ref a__law_text) = true)
    (af_law : PySem.W.nsIn K mainGlobals "law" = some (some (.ref a_law)))
    (lf_law : K.lookup a_law = some ⟨oc_law, od_law, .func (PySem.W.fnOf "law" "law" (defArgs s_law) (defBody s_law) (defScope s_law) .none kV_law dc_law pm_law an_law cd_law ct_law), sl_law⟩)
    (cf_law : PySem.W.codeIn K cd_law "law" = true)
    (kf_law : PySem.W.keepIn K (.ref a_law) = true)
    (x_InvalidText : PySem.W.excIn K c_InvalidText [.type "ValueError", .type "Exception", .type "BaseException", .type "object"] "ValueError.__new__" = true)
    (xk_InvalidText : PySem.W.keepIn K (.ref c_InvalidText) = true)
    (xb_InvalidText : PySem.W.subIn K (.ref c_InvalidText) (.type "BaseException") = some true)
    (xt_InvalidText : PySem.W.typeIn K (.ref c_InvalidText) = some (.type "type"))
    (icn : PySem.W.specialIn K (.builtin "object.__class__") "__get__" = some (some (.builtin "getset_descriptor.__get__")))
    (ict : PySem.W.takesIn K (.builtin "object.__class__") = some true)
    (e1_InvalidText : PySem.W.findIn K (.ref c_InvalidText) "__getattribute__" = some (some (.builtin "BaseException.__getattribute__")))
    (e2_InvalidText : PySem.W.findIn K (.ref c_InvalidText) "__getattr__" = some none)
    (e3_InvalidText : PySem.W.hasDictIn K c_InvalidText = true)
    (e4_InvalidText : PySem.W.findIn K (.ref c_InvalidText) "__class__" = some (some (.builtin "object.__class__")))
    (e5_InvalidText : PySem.W.mroIn K c_InvalidText (.type "object") = some true)
    (em_InvalidText_SlipError : PySem.W.exmOne K (.ref c_InvalidText) (.ref c_SlipError) = some true)
    (q_InvalidText_InvalidText : PySem.W.kitOne K (.ref c_InvalidText) (.ref c_InvalidText) = some true)
    (q_InvalidText_ValueError : PySem.W.kitOne K (.ref c_InvalidText) (.type "ValueError") = some true)
    (qa_InvalidText_1 : PySem.W.kitAny K (.ref c_InvalidText) [.ref c_InvalidSheet, .ref c_InvalidCommand, .ref c_InvalidKind, .ref c_InvalidLot, .ref c_InvalidSlips, .ref c_InvalidColumn] = some false)
    (qa_InvalidText_2 : PySem.W.kitAny K (.ref c_InvalidText) [.ref c_NotAlike, .ref c_NotPossible, .ref c_NotReady, .ref c_NothingToUndo, .ref c_TooMany, .ref c_Waits] = some false)
    (nb_ValueError : PySem.W.nsIn K mainGlobals "ValueError" = some none)
    (nb_all : PySem.W.nsIn K mainGlobals "all" = some none)
    (nb_int : PySem.W.nsIn K mainGlobals "int" = some none)
    (nb_isinstance : PySem.W.nsIn K mainGlobals "isinstance" = some none)
    (nb_len : PySem.W.nsIn K mainGlobals "len" = some none)
    (nb_range : PySem.W.nsIn K mainGlobals "range" = some none)
    (nb_str : PySem.W.nsIn K mainGlobals "str" = some none)
    (ak_DIGITS : PySem.W.nsIn K mainGlobals "DIGITS" = some (some (.str "0123456789" tk_DIGITS)))
    (ak_MOST_BASE : PySem.W.nsIn K mainGlobals "MOST_BASE" = some (some (.int 12 tk_MOST_BASE)))
    (ak_MOST_ROWS : PySem.W.nsIn K mainGlobals "MOST_ROWS" = some (some (.int 4 tk_MOST_ROWS)))
    (ak_PIECE : PySem.W.nsIn K mainGlobals "PIECE" = some (some (.int 1000000000 tk_PIECE)))
    : Txt K mg where
  c_SlipError := c_SlipError
  m_SlipError := PySem.W.mg_of X G ac_SlipError
  c_InvalidSheet := c_InvalidSheet
  m_InvalidSheet := PySem.W.mg_of X G ac_InvalidSheet
  c_InvalidColumn := c_InvalidColumn
  m_InvalidColumn := PySem.W.mg_of X G ac_InvalidColumn
  c_InvalidKind := c_InvalidKind
  m_InvalidKind := PySem.W.mg_of X G ac_InvalidKind
  c_InvalidLot := c_InvalidLot
  m_InvalidLot := PySem.W.mg_of X G ac_InvalidLot
  c_NotAlike := c_NotAlike
  m_NotAlike := PySem.W.mg_of X G ac_NotAlike
  c_NotPossible := c_NotPossible
  m_NotPossible := PySem.W.mg_of X G ac_NotPossible
  c_TooMany := c_TooMany
  m_TooMany := PySem.W.mg_of X G ac_TooMany
  c_Waits := c_Waits
  m_Waits := PySem.W.mg_of X G ac_Waits
  c_InvalidText := c_InvalidText
  m_InvalidText := PySem.W.mg_of X G ac_InvalidText
  c_InvalidCommand := c_InvalidCommand
  m_InvalidCommand := PySem.W.mg_of X G ac_InvalidCommand
  c_NothingToUndo := c_NothingToUndo
  m_NothingToUndo := PySem.W.mg_of X G ac_NothingToUndo
  c_NotReady := c_NotReady
  m_NotReady := PySem.W.mg_of X G ac_NotReady
  c_InvalidSlips := c_InvalidSlips
  m_InvalidSlips := PySem.W.mg_of X G ac_InvalidSlips
  a__law_cells := a__law_cells
  fd__law_cells := PySem.W.fnOf "_law_cells" "_law_cells" (defArgs s__law_cells) (defBody s__law_cells) (defScope s__law_cells) .none kV__law_cells dc__law_cells pm__law_cells an__law_cells cd__law_cells ct__law_cells
  F__law_cells := fun_mk (st := s__law_cells) lf__law_cells cf__law_cells kf__law_cells
  b__law_cells := (fun_mk (st := s__law_cells) lf__law_cells cf__law_cells kf__law_cells).binds (ps := ["script"]) fun _ _ _ _ _ _ us hl => match us, hl with | [_], _ => rfl
  m__law_cells := PySem.W.mg_of X G af__law_cells
  a__law_deck := a__law_deck
  fd__law_deck := PySem.W.fnOf "_law_deck" "_law_deck" (defArgs s__law_deck) (defBody s__law_deck) (defScope s__law_deck) .none kV__law_deck dc__law_deck pm__law_deck an__law_deck cd__law_deck ct__law_deck
  F__law_deck := fun_mk (st := s__law_deck) lf__law_deck cf__law_deck kf__law_deck
  b__law_deck := (fun_mk (st := s__law_deck) lf__law_deck cf__law_deck kf__law_deck).binds (ps := ["cell"]) fun _ _ _ _ _ _ us hl => match us, hl with | [_], _ => rfl
  m__law_deck := PySem.W.mg_of X G af__law_deck
  a__law_draw := a__law_draw
  fd__law_draw := PySem.W.fnOf "_law_draw" "_law_draw" (defArgs s__law_draw) (defBody s__law_draw) (defScope s__law_draw) .none kV__law_draw dc__law_draw pm__law_draw an__law_draw cd__law_draw ct__law_draw
  F__law_draw := fun_mk (st := s__law_draw) lf__law_draw cf__law_draw kf__law_draw
  b__law_draw := (fun_mk (st := s__law_draw) lf__law_draw cf__law_draw kf__law_draw).binds (ps := ["deck", "many"]) fun _ _ _ _ _ _ us hl => match us, hl with | [_, _], _ => rfl
  m__law_draw := PySem.W.mg_of X G af__law_draw
  a__law_near := a__law_near
  fd__law_near := PySem.W.fnOf "_law_near" "_law_near" (defArgs s__law_near) (defBody s__law_near) (defScope s__law_near) .none kV__law_near dc__law_near pm__law_near an__law_near cd__law_near ct__law_near
  F__law_near := fun_mk (st := s__law_near) lf__law_near cf__law_near kf__law_near
  b__law_near := (fun_mk (st := s__law_near) lf__law_near cf__law_near kf__law_near).binds (ps := ["deck"]) fun _ _ _ _ _ _ us hl => match us, hl with | [_], _ => rfl
  m__law_near := PySem.W.mg_of X G af__law_near
  a__law_deed_texts := a__law_deed_texts
  fd__law_deed_texts := PySem.W.fnOf "_law_deed_texts" "_law_deed_texts" (defArgs s__law_deed_texts) (defBody s__law_deed_texts) (defScope s__law_deed_texts) .none kV__law_deed_texts dc__law_deed_texts pm__law_deed_texts an__law_deed_texts cd__law_deed_texts ct__law_deed_texts
  F__law_deed_texts := fun_mk (st := s__law_deed_texts) lf__law_deed_texts cf__law_deed_texts kf__law_deed_texts
  b__law_deed_texts := (fun_mk (st := s__law_deed_texts) lf__law_deed_texts cf__law_deed_texts kf__law_deed_texts).binds (ps := []) fun _ _ _ _ _ _ us hl => match us, hl with | [], _ => rfl
  m__law_deed_texts := PySem.W.mg_of X G af__law_deed_texts
  a__law_number := a__law_number
  fd__law_number := PySem.W.fnOf "_law_number" "_law_number" (defArgs s__law_number) (defBody s__law_number) (defScope s__law_number) .none kV__law_number dc__law_number pm__law_number an__law_number cd__law_number ct__law_number
  F__law_number := fun_mk (st := s__law_number) lf__law_number cf__law_number kf__law_number
  b__law_number := (fun_mk (st := s__law_number) lf__law_number cf__law_number kf__law_number).binds (ps := ["word"]) fun _ _ _ _ _ _ us hl => match us, hl with | [_], _ => rfl
  m__law_number := PySem.W.mg_of X G af__law_number
  a__law_is_text := a__law_is_text
  fd__law_is_text := PySem.W.fnOf "_law_is_text" "_law_is_text" (defArgs s__law_is_text) (defBody s__law_is_text) (defScope s__law_is_text) .none kV__law_is_text dc__law_is_text pm__law_is_text an__law_is_text cd__law_is_text ct__law_is_text
  F__law_is_text := fun_mk (st := s__law_is_text) lf__law_is_text cf__law_is_text kf__law_is_text
  b__law_is_text := (fun_mk (st := s__law_is_text) lf__law_is_text cf__law_is_text kf__law_is_text).binds (ps := ["value"]) fun _ _ _ _ _ _ us hl => match us, hl with | [_], _ => rfl
  m__law_is_text := PySem.W.mg_of X G af__law_is_text
  a_deeds_of := a_deeds_of
  fd_deeds_of := PySem.W.fnOf "deeds_of" "deeds_of" (defArgs s_deeds_of) (defBody s_deeds_of) (defScope s_deeds_of) .none kV_deeds_of dc_deeds_of pm_deeds_of an_deeds_of cd_deeds_of ct_deeds_of
  F_deeds_of := fun_mk (st := s_deeds_of) lf_deeds_of cf_deeds_of kf_deeds_of
  b_deeds_of := (fun_mk (st := s_deeds_of) lf_deeds_of cf_deeds_of kf_deeds_of).binds (ps := ["base", "rows"]) fun _ _ _ _ _ _ us hl => match us, hl with | [_, _], _ => rfl
  m_deeds_of := PySem.W.mg_of X G af_deeds_of
  a_show_integer := a_show_integer
  fd_show_integer := PySem.W.fnOf "show_integer" "show_integer" (defArgs s_show_integer) (defBody s_show_integer) (defScope s_show_integer) .none kV_show_integer dc_show_integer pm_show_integer an_show_integer cd_show_integer ct_show_integer
  F_show_integer := fun_mk (st := s_show_integer) lf_show_integer cf_show_integer kf_show_integer
  b_show_integer := (fun_mk (st := s_show_integer) lf_show_integer cf_show_integer kf_show_integer).binds (ps := ["number"]) fun _ _ _ _ _ _ us hl => match us, hl with | [_], _ => rfl
  m_show_integer := PySem.W.mg_of X G af_show_integer
  a_show_deed := a_show_deed
  fd_show_deed := PySem.W.fnOf "show_deed" "show_deed" (defArgs s_show_deed) (defBody s_show_deed) (defScope s_show_deed) .none kV_show_deed dc_show_deed pm_show_deed an_show_deed cd_show_deed ct_show_deed
  F_show_deed := fun_mk (st := s_show_deed) lf_show_deed cf_show_deed kf_show_deed
  b_show_deed := (fun_mk (st := s_show_deed) lf_show_deed cf_show_deed kf_show_deed).binds (ps := ["deed"]) fun _ _ _ _ _ _ us hl => match us, hl with | [_], _ => rfl
  m_show_deed := PySem.W.mg_of X G af_show_deed
  a_read_deed := a_read_deed
  fd_read_deed := PySem.W.fnOf "read_deed" "read_deed" (defArgs s_read_deed) (defBody s_read_deed) (defScope s_read_deed) .none kV_read_deed dc_read_deed pm_read_deed an_read_deed cd_read_deed ct_read_deed
  F_read_deed := fun_mk (st := s_read_deed) lf_read_deed cf_read_deed kf_read_deed
  b_read_deed := (fun_mk (st := s_read_deed) lf_read_deed cf_read_deed kf_read_deed).binds (ps := ["text"]) fun _ _ _ _ _ _ us hl => match us, hl with | [_], _ => rfl
  m_read_deed := PySem.W.mg_of X G af_read_deed
  a_read_integer := a_read_integer
  fd_read_integer := PySem.W.fnOf "read_integer" "read_integer" (defArgs s_read_integer) (defBody s_read_integer) (defScope s_read_integer) .none kV_read_integer dc_read_integer pm_read_integer an_read_integer cd_read_integer ct_read_integer
  F_read_integer := fun_mk (st := s_read_integer) lf_read_integer cf_read_integer kf_read_integer
  b_read_integer := (fun_mk (st := s_read_integer) lf_read_integer cf_read_integer kf_read_integer).binds (ps := ["word"]) fun _ _ _ _ _ _ us hl => match us, hl with | [_], _ => rfl
  m_read_integer := PySem.W.mg_of X G af_read_integer
  a_read_slips := a_read_slips
  fd_read_slips := PySem.W.fnOf "read_slips" "read_slips" (defArgs s_read_slips) (defBody s_read_slips) (defScope s_read_slips) .none kV_read_slips dc_read_slips pm_read_slips an_read_slips cd_read_slips ct_read_slips
  F_read_slips := fun_mk (st := s_read_slips) lf_read_slips cf_read_slips kf_read_slips
  b_read_slips := (fun_mk (st := s_read_slips) lf_read_slips cf_read_slips kf_read_slips).binds (ps := ["text"]) fun _ _ _ _ _ _ us hl => match us, hl with | [_], _ => rfl
  m_read_slips := PySem.W.mg_of X G af_read_slips
  a__law_read := a__law_read
  fd__law_read := PySem.W.fnOf "_law_read" "_law_read" (defArgs s__law_read) (defBody s__law_read) (defScope s__law_read) .none kV__law_read dc__law_read pm__law_read an__law_read cd__law_read ct__law_read
  F__law_read := fun_mk (st := s__law_read) lf__law_read cf__law_read kf__law_read
  b__law_read := (fun_mk (st := s__law_read) lf__law_read cf__law_read kf__law_read).binds (ps := ["value"]) fun _ _ _ _ _ _ us hl => match us, hl with | [_], _ => rfl
  m__law_read := PySem.W.mg_of X G af__law_read
  a_show_slips := a_show_slips
  fd_show_slips := PySem.W.fnOf "show_slips" "show_slips" (defArgs s_show_slips) (defBody s_show_slips) (defScope s_show_slips) .none kV_show_slips dc_show_slips pm_show_slips an_show_slips cd_show_slips ct_show_slips
  F_show_slips := fun_mk (st := s_show_slips) lf_show_slips cf_show_slips kf_show_slips
  b_show_slips := (fun_mk (st := s_show_slips) lf_show_slips cf_show_slips kf_show_slips).binds (ps := ["slips"]) fun _ _ _ _ _ _ us hl => match us, hl with | [_], _ => rfl
  m_show_slips := PySem.W.mg_of X G af_show_slips
  a__law_right := a__law_right
  fd__law_right := PySem.W.fnOf "_law_right" "_law_right" (defArgs s__law_right) (defBody s__law_right) (defScope s__law_right) .none kV__law_right dc__law_right pm__law_right an__law_right cd__law_right ct__law_right
  F__law_right := fun_mk (st := s__law_right) lf__law_right cf__law_right kf__law_right
  b__law_right := (fun_mk (st := s__law_right) lf__law_right cf__law_right kf__law_right).binds (ps := ["value"]) fun _ _ _ _ _ _ us hl => match us, hl with | [_], _ => rfl
  m__law_right := PySem.W.mg_of X G af__law_right
  a__law_spoilt := a__law_spoilt
  fd__law_spoilt := PySem.W.fnOf "_law_spoilt" "_law_spoilt" (defArgs s__law_spoilt) (defBody s__law_spoilt) (defScope s__law_spoilt) .none kV__law_spoilt dc__law_spoilt pm__law_spoilt an__law_spoilt cd__law_spoilt ct__law_spoilt
  F__law_spoilt := fun_mk (st := s__law_spoilt) lf__law_spoilt cf__law_spoilt kf__law_spoilt
  b__law_spoilt := (fun_mk (st := s__law_spoilt) lf__law_spoilt cf__law_spoilt kf__law_spoilt).binds (ps := ["deck", "text"]) fun _ _ _ _ _ _ us hl => match us, hl with | [_, _], _ => rfl
  m__law_spoilt := PySem.W.mg_of X G af__law_spoilt
  a__law_deed := a__law_deed
  fd__law_deed := PySem.W.fnOf "_law_deed" "_law_deed" (defArgs s__law_deed) (defBody s__law_deed) (defScope s__law_deed) .none kV__law_deed dc__law_deed pm__law_deed an__law_deed cd__law_deed ct__law_deed
  F__law_deed := fun_mk (st := s__law_deed) lf__law_deed cf__law_deed kf__law_deed
  b__law_deed := (fun_mk (st := s__law_deed) lf__law_deed cf__law_deed kf__law_deed).binds (ps := ["deck", "base", "rows"]) fun _ _ _ _ _ _ us hl => match us, hl with | [_, _, _], _ => rfl
  m__law_deed := PySem.W.mg_of X G af__law_deed
  a__law_deed_text := a__law_deed_text
  fd__law_deed_text := PySem.W.fnOf "_law_deed_text" "_law_deed_text" (defArgs s__law_deed_text) (defBody s__law_deed_text) (defScope s__law_deed_text) .none kV__law_deed_text dc__law_deed_text pm__law_deed_text an__law_deed_text cd__law_deed_text ct__law_deed_text
  F__law_deed_text := fun_mk (st := s__law_deed_text) lf__law_deed_text cf__law_deed_text kf__law_deed_text
  b__law_deed_text := (fun_mk (st := s__law_deed_text) lf__law_deed_text cf__law_deed_text kf__law_deed_text).binds (ps := ["deed"]) fun _ _ _ _ _ _ us hl => match us, hl with | [_], _ => rfl
  m__law_deed_text := PySem.W.mg_of X G af__law_deed_text
  a__law_text := a__law_text
  fd__law_text := PySem.W.fnOf "_law_text" "_law_text" (defArgs s__law_text) (defBody s__law_text) (defScope s__law_text) .none kV__law_text dc__law_text pm__law_text an__law_text cd__law_text ct__law_text
  F__law_text := fun_mk (st := s__law_text) lf__law_text cf__law_text kf__law_text
  b__law_text := (fun_mk (st := s__law_text) lf__law_text cf__law_text kf__law_text).binds (ps := ["deck"]) fun _ _ _ _ _ _ us hl => match us, hl with | [_], _ => rfl
  m__law_text := PySem.W.mg_of X G af__law_text
  a_law := a_law
  fd_law := PySem.W.fnOf "law" "law" (defArgs s_law) (defBody s_law) (defScope s_law) .none kV_law dc_law pm_law an_law cd_law ct_law
  F_law := fun_mk (st := s_law) lf_law cf_law kf_law
  b_law := (fun_mk (st := s_law) lf_law cf_law kf_law).binds (ps := ["script"]) fun _ _ _ _ _ _ us hl => match us, hl with | [_], _ => rfl
  m_law := PySem.W.mg_of X G af_law
  x_InvalidText := x_InvalidText
  xk_InvalidText := xk_InvalidText
  xb_InvalidText := xb_InvalidText
  xt_InvalidText := xt_InvalidText
  e_InvalidText := ⟨e1_InvalidText, e2_InvalidText, xb_InvalidText, e3_InvalidText, e4_InvalidText, icn, ict, e5_InvalidText⟩
  em_InvalidText_SlipError := em_InvalidText_SlipError
  q_InvalidText_InvalidText := q_InvalidText_InvalidText
  q_InvalidText_ValueError := q_InvalidText_ValueError
  qa_InvalidText_1 := qa_InvalidText_1
  qa_InvalidText_2 := qa_InvalidText_2
  n_ValueError := PySem.W.mg_none_of X G nb_ValueError
  n_all := PySem.W.mg_none_of X G nb_all
  n_int := PySem.W.mg_none_of X G nb_int
  n_isinstance := PySem.W.mg_none_of X G nb_isinstance
  n_len := PySem.W.mg_none_of X G nb_len
  n_range := PySem.W.mg_none_of X G nb_range
  n_str := PySem.W.mg_none_of X G nb_str
  tk_DIGITS := tk_DIGITS
  m_DIGITS := PySem.W.mg_of X G ak_DIGITS
  tk_MOST_BASE := tk_MOST_BASE
  m_MOST_BASE := PySem.W.mg_of X G ak_MOST_BASE
  tk_MOST_ROWS := tk_MOST_ROWS
  m_MOST_ROWS := PySem.W.mg_of X G ak_MOST_ROWS
  tk_PIECE := tk_PIECE
  m_PIECE := PySem.W.mg_of X G ak_PIECE
theorem fin {P : Program} {w : World} {K : PySem.W.Frag} {h : Heap} {mg : Str → Option Value} {fa : Addr} (X : K.In h) (G : h.Ns mainGlobals mg) (hfa : mg "law" = some (.ref fa)) {c_SlipError : Addr} {c_InvalidSheet : Addr} {c_InvalidColumn : Addr} {c_InvalidKind : Addr} {c_InvalidLot : Addr} {c_NotAlike : Addr} {c_NotPossible : Addr} {c_TooMany : Addr} {c_Waits : Addr} {c_InvalidText : Addr} {c_InvalidCommand : Addr} {c_NothingToUndo : Addr} {c_NotReady : Addr} {c_InvalidSlips : Addr} {a__law_cells : Addr} {oc__law_cells kV__law_cells dc__law_cells pm__law_cells cd__law_cells ct__law_cells : Value} {od__law_cells an__law_cells : Option Addr} {sl__law_cells : Array (Option Value)} {a__law_deck : Addr} {oc__law_deck kV__law_deck dc__law_deck pm__law_deck cd__law_deck ct__law_deck : Value} {od__law_deck an__law_deck : Option Addr} {sl__law_deck : Array (Option Value)} {a__law_draw : Addr} {oc__law_draw kV__law_draw dc__law_draw pm__law_draw cd__law_draw ct__law_draw : Value} {od__law_draw an__law_draw : Option Addr} {sl__law_draw : Array (Option Value)} {a__law_near : Addr} {oc__law_near kV__law_near dc__law_near pm__law_near cd__law_near ct__law_near : Value} {od__law_near an__law_near : Option Addr} {sl__law_near : Array (Option Value)} {a__law_deed_texts : Addr} {oc__law_deed_texts kV__law_deed_texts dc__law_deed_texts pm__law_deed_texts cd__law_deed_texts ct__law_deed_texts : Value} {od__law_deed_texts an__law_deed_texts : Option Addr} {sl__law_deed_texts : Array (Option Value)} {a__law_number : Addr} {oc__law_number kV__law_number dc__law_number pm__law_number cd__law_number ct__law_number : Value} {od__law_number an__law_number : Option Addr} {sl__law_number : Array (Option Value)} {a__law_is_text : Addr} {oc__law_is_text kV__law_is_text dc__law_is_text pm__law_is_text cd__law_is_text ct__law_is_text : Value} {od__law_is_text an__law_is_text : Option Addr} {sl__law_is_text : Array (Option Value)} {a_deeds_of : Addr} {oc_deeds_of kV_deeds_of dc_deeds_of pm_deeds_of cd_deeds_of ct_deeds_of : Value} {od_deeds_of an_deeds_of : Option Addr} {sl_deeds_of : Array (Option Value)} {a_show_integer : Addr} {oc_show_integer kV_show_integer dc_show_integer pm_show_integer cd_show_integer ct_show_integer : Value} {od_show_integer an_show_integer : Option Addr} {sl_show_integer : Array (Option Value)} {a_show_deed : Addr} {oc_show_deed kV_show_deed dc_show_deed pm_show_deed cd_show_deed ct_show_deed : Value} {od_show_deed an_show_deed : Option Addr} {sl_show_deed : Array (Option Value)} {a_read_deed : Addr} {oc_read_deed kV_read_deed dc_read_deed pm_read_deed cd_read_deed ct_read_deed : Value} {od_read_deed an_read_deed : Option Addr} {sl_read_deed : Array (Option Value)} {a_read_integer : Addr} {oc_read_integer kV_read_integer dc_read_integer pm_read_integer cd_read_integer ct_read_integer : Value} {od_read_integer an_read_integer : Option Addr} {sl_read_integer : Array (Option Value)} {a_read_slips : Addr} {oc_read_slips kV_read_slips dc_read_slips pm_read_slips cd_read_slips ct_read_slips : Value} {od_read_slips an_read_slips : Option Addr} {sl_read_slips : Array (Option Value)} {a__law_read : Addr} {oc__law_read kV__law_read dc__law_read pm__law_read cd__law_read ct__law_read : Value} {od__law_read an__law_read : Option Addr} {sl__law_read : Array (Option Value)} {a_show_slips : Addr} {oc_show_slips kV_show_slips dc_show_slips pm_show_slips cd_show_slips ct_show_slips : Value} {od_show_slips an_show_slips : Option Addr} {sl_show_slips : Array (Option Value)} {a__law_right : Addr} {oc__law_right kV__law_right dc__law_right pm__law_right cd__law_right ct__law_right : Value} {od__law_right an__law_right : Option Addr} {sl__law_right : Array (Option Value)} {a__law_spoilt : Addr} {oc__law_spoilt kV__law_spoilt dc__law_spoilt pm__law_spoilt cd__law_spoilt ct__law_spoilt : Value} {od__law_spoilt an__law_spoilt : Option Addr} {sl__law_spoilt : Array (Option Value)} {a__law_deed : Addr} {oc__law_deed kV__law_deed dc__law_deed pm__law_deed cd__law_deed ct__law_deed : Value} {od__law_deed an__law_deed : Option Addr} {sl__law_deed : Array (Option Value)} {a__law_deed_text : Addr} {oc__law_deed_text kV__law_deed_text dc__law_deed_text pm__law_deed_text cd__law_deed_text ct__law_deed_text : Value} {od__law_deed_text an__law_deed_text : Option Addr} {sl__law_deed_text : Array (Option Value)} {a__law_text : Addr} {oc__law_text kV__law_text dc__law_text pm__law_text cd__law_text ct__law_text : Value} {od__law_text an__law_text : Option Addr} {sl__law_text : Array (Option Value)} {a_law : Addr} {oc_law kV_law dc_law pm_law cd_law ct_law : Value} {od_law an_law : Option Addr} {sl_law : Array (Option Value)} {tk_DIGITS : Tok} {tk_MOST_BASE : Tok} {tk_MOST_ROWS : Tok} {tk_PIECE : Tok}
    (ac_SlipError : PySem.W.nsIn K mainGlobals "SlipError" = some (some (.ref c_SlipError)))
    (ac_InvalidSheet : PySem.W.nsIn K mainGlobals "InvalidSheet" = some (some (.ref c_InvalidSheet)))
    (ac_InvalidColumn : PySem.W.nsIn K mainGlobals "InvalidColumn" = some (some (.ref c_InvalidColumn)))
    (ac_InvalidKind : PySem.W.nsIn K mainGlobals "InvalidKind" = some (some (.ref c_InvalidKind)))
    (ac_InvalidLot : PySem.W.nsIn K mainGlobals "InvalidLot" = some (some (.ref c_InvalidLot)))
    (ac_NotAlike : PySem.W.nsIn K mainGlobals "NotAlike" = some (some (.ref c_NotAlike)))
    (ac_NotPossible : PySem.W.nsIn K mainGlobals "NotPossible" = some (some (.ref c_NotPossible)))
    (ac_TooMany : PySem.W.nsIn K mainGlobals "TooMany" = some (some (.ref c_TooMany)))
    (ac_Waits : PySem.W.nsIn K mainGlobals "Waits" = some (some (.ref c_Waits)))
    (ac_InvalidText : PySem.W.nsIn K mainGlobals "InvalidText" = some (some (.ref c_InvalidText)))
    (ac_InvalidCommand : PySem.W.nsIn K mainGlobals "InvalidCommand" = some (some (.ref c_InvalidCommand)))
    (ac_NothingToUndo : PySem.W.nsIn K mainGlobals "NothingToUndo" = some (some (.ref c_NothingToUndo)))
    (ac_NotReady : PySem.W.nsIn K mainGlobals "NotReady" = some (some (.ref c_NotReady)))
    (ac_InvalidSlips : PySem.W.nsIn K mainGlobals "InvalidSlips" = some (some (.ref c_InvalidSlips)))
    (af__law_cells : PySem.W.nsIn K mainGlobals "_law_cells" = some (some (.ref a__law_cells)))
    (lf__law_cells : K.lookup a__law_cells = some ⟨oc__law_cells, od__law_cells, .func (PySem.W.fnOf "_law_cells" "_law_cells" (defArgs s__law_cells) (defBody s__law_cells) (defScope s__law_cells) .none kV__law_cells dc__law_cells pm__law_cells an__law_cells cd__law_cells ct__law_cells), sl__law_cells⟩)
    (cf__law_cells : PySem.W.codeIn K cd__law_cells "_law_cells" = true)
    (kf__law_cells : PySem.W.keepIn K (.ref a__law_cells) = true)
    (af__law_deck : PySem.W.nsIn K mainGlobals "_law_deck" = some (some (.ref a__law_deck)))
    (lf__law_deck : K.lookup a__law_deck = some ⟨oc__law_deck, od__law_deck, .func (PySem.W.fnOf "_law_deck" "_law_deck" (defArgs s__law_deck) (defBody s__law_deck) (defScope s__law_deck) .none kV__law_deck dc__law_deck pm__law_deck an__law_deck cd__law_deck ct__law_deck), sl__law_deck⟩)
    (cf__law_deck : PySem.W.codeIn K cd__law_deck "_law_deck" = true)
    (kf__law_deck : PySem.W.keepIn K (.ref a__law_deck) = true)
    (af__law_draw : PySem.W.nsIn K mainGlobals "_law_draw" = some (some (.ref a__law_draw)))
    (lf__law_draw : K.lookup a__law_draw = some ⟨oc__law_draw, od__law_draw, .func (PySem.W.fnOf "_law_draw" "_law_draw" (defArgs s__law_draw) (defBody s__law_draw) (defScope s__law_draw) .none kV__law_draw dc__law_draw pm__law_draw an__law_draw cd__law_draw ct__law_draw), sl__law_draw⟩)
    (cf__law_draw : PySem.W.codeIn K cd__law_draw "_law_draw" = true)
    (kf__law_draw : PySem.W.keepIn K (.ref a__law_draw) = true)
    (af__law_near : PySem.W.nsIn K mainGlobals "_law_near" = some (some (.ref a__law_near)))
    (lf__law_near : K.lookup a__law_near = some ⟨oc__law_near, od__law_near, .func (PySem.W.fnOf "_law_near" "_law_near" (defArgs s__law_near) (defBody s__law_near) (defScope s__law_near) .none kV__law_near dc__law_near pm__law_near an__law_near cd__law_near ct__law_near), sl__law_near⟩)
    (cf__law_near : PySem.W.codeIn K cd__law_near "_law_near" = true)
    (kf__law_near : PySem.W.keepIn K (.ref a__law_near) = true)
    (af__law_deed_texts : PySem.W.nsIn K mainGlobals "_law_deed_texts" = some (some (.ref a__law_deed_texts)))
    (lf__law_deed_texts : K.lookup a__law_deed_texts = some ⟨oc__law_deed_texts, od__law_deed_texts, .func (PySem.W.fnOf "_law_deed_texts" "_law_deed_texts" (defArgs s__law_deed_texts) (defBody s__law_deed_texts) (defScope s__law_deed_texts) .none kV__law_deed_texts dc__law_deed_texts pm__law_deed_texts an__law_deed_texts cd__law_deed_texts ct__law_deed_texts), sl__law_deed_texts⟩)
    (cf__law_deed_texts : PySem.W.codeIn K cd__law_deed_texts "_law_deed_texts" = true)
    (kf__law_deed_texts : PySem.W.keepIn K (.ref a__law_deed_texts) = true)
    (af__law_number : PySem.W.nsIn K mainGlobals "_law_number" = some (some (.ref a__law_number)))
    (lf__law_number : K.lookup a__law_number = some ⟨oc__law_number, od__law_number, .func (PySem.W.fnOf "_law_number" "_law_number" (defArgs s__law_number) (defBody s__law_number) (defScope s__law_number) .none kV__law_number dc__law_number pm__law_number an__law_number cd__law_number ct__law_number), sl__law_number⟩)
    (cf__law_number : PySem.W.codeIn K cd__law_number "_law_number" = true)
    (kf__law_number : PySem.W.keepIn K (.ref a__law_number) = true)
    (af__law_is_text : PySem.W.nsIn K mainGlobals "_law_is_text" = some (some (.ref a__law_is_text)))
    (lf__law_is_text : K.lookup a__law_is_text = some ⟨oc__law_is_text, od__law_is_text, .func (PySem.W.fnOf "_law_is_text" "_law_is_text" (defArgs s__law_is_text) (defBody s__law_is_text) (defScope s__law_is_text) .none kV__law_is_text dc__law_is_text pm__law_is_text an__law_is_text cd__law_is_text ct__law_is_text), sl__law_is_text⟩)
    (cf__law_is_text : PySem.W.codeIn K cd__law_is_text "_law_is_text" = true)
    (kf__law_is_text : PySem.W.keepIn K (.ref a__law_is_text) = true)
    (af_deeds_of : PySem.W.nsIn K mainGlobals "deeds_of" = some (some (.ref a_deeds_of)))
    (lf_deeds_of : K.lookup a_deeds_of = some ⟨oc_deeds_of, od_deeds_of, .func (PySem.W.fnOf "deeds_of" "deeds_of" (defArgs s_deeds_of) (defBody s_deeds_of) (defScope s_deeds_of) .none kV_deeds_of dc_deeds_of pm_deeds_of an_deeds_of cd_deeds_of ct_deeds_of), sl_deeds_of⟩)
    (cf_deeds_of : PySem.W.codeIn K cd_deeds_of "deeds_of" = true)
    (kf_deeds_of : PySem.W.keepIn K (.ref a_deeds_of) = true)
    (af_show_integer : PySem.W.nsIn K mainGlobals "show_integer" = some (some (.ref a_show_integer)))
    (lf_show_integer : K.lookup a_show_integer = some ⟨oc_show_integer, od_show_integer, .func (PySem.W.fnOf "show_integer" "show_integer" (defArgs s_show_integer) (defBody s_show_integer) (defScope s_show_integer) .none kV_show_integer dc_show_integer pm_show_integer an_show_integer cd_show_integer ct_show_integer), sl_show_integer⟩)
    (cf_show_integer : PySem.W.codeIn K cd_show_integer "show_integer" = true)
    (kf_show_integer : PySem.W.keepIn K (.ref a_show_integer) = true)
    (af_show_deed : PySem.W.nsIn K mainGlobals "show_deed" = some (some (.ref a_show_deed)))
    (lf_show_deed : K.lookup a_show_deed = some ⟨oc_show_deed, od_show_deed, .func (PySem.W.fnOf "show_deed" "show_deed" (defArgs s_show_deed) (defBody s_show_deed) (defScope s_show_deed) .none kV_show_deed dc_show_deed pm_show_deed an_show_deed cd_show_deed ct_show_deed), sl_show_deed⟩)
    (cf_show_deed : PySem.W.codeIn K cd_show_deed "show_deed" = true)
    (kf_show_deed : PySem.W.keepIn K (.ref a_show_deed) = true)
    (af_read_deed : PySem.W.nsIn K mainGlobals "read_deed" = some (some (.ref a_read_deed)))
    (lf_read_deed : K.lookup a_read_deed = some ⟨oc_read_deed, od_read_deed, .func (PySem.W.fnOf "read_deed" "read_deed" (defArgs s_read_deed) (defBody s_read_deed) (defScope s_read_deed) .none kV_read_deed dc_read_deed pm_read_deed an_read_deed cd_read_deed ct_read_deed), sl_read_deed⟩)
    (cf_read_deed : PySem.W.codeIn K cd_read_deed "read_deed" = true)
    (kf_read_deed : PySem.W.keepIn K (.ref a_read_deed) = true)
    (af_read_integer : PySem.W.nsIn K mainGlobals "read_integer" = some (some (.ref a_read_integer)))
    (lf_read_integer : K.lookup a_read_integer = some ⟨oc_read_integer, od_read_integer, .func (PySem.W.fnOf "read_integer" "read_integer" (defArgs s_read_integer) (defBody s_read_integer) (defScope s_read_integer) .none kV_read_integer dc_read_integer pm_read_integer an_read_integer cd_read_integer ct_read_integer), sl_read_integer⟩)
    (cf_read_integer : PySem.W.codeIn K cd_read_integer "read_integer" = true)
    (kf_read_integer : PySem.W.keepIn K (.ref a_read_integer) = true)
    (af_read_slips : PySem.W.nsIn K mainGlobals "read_slips" = some (some (.ref a_read_slips)))
    (lf_read_slips : K.lookup a_read_slips = some ⟨oc_read_slips, od_read_slips, .func (PySem.W.fnOf "read_slips" "read_slips" (defArgs s_read_slips) (defBody s_read_slips) (defScope s_read_slips) .none kV_read_slips dc_read_slips pm_read_slips an_read_slips cd_read_slips ct_read_slips), sl_read_slips⟩)
    (cf_read_slips : PySem.W.codeIn K cd_read_slips "read_slips" = true)
    (kf_read_slips : PySem.W.keepIn K (.ref a_read_slips) = true)
    (af__law_read : PySem.W.nsIn K mainGlobals "_law_read" = some (some (.ref a__law_read)))
    (lf__law_read : K.lookup a__law_read = some ⟨oc__law_read, od__law_read, .func (PySem.W.fnOf "_law_read" "_law_read" (defArgs s__law_read) (defBody s__law_read) (defScope s__law_read) .none kV__law_read dc__law_read pm__law_read an__law_read cd__law_read ct__law_read), sl__law_read⟩)
    (cf__law_read : PySem.W.codeIn K cd__law_read "_law_read" = true)
    (kf__law_read : PySem.W.keepIn K (.ref a__law_read) = true)
    (af_show_slips : PySem.W.nsIn K mainGlobals "show_slips" = some (some (.ref a_show_slips)))
    (lf_show_slips : K.lookup a_show_slips = some ⟨oc_show_slips, od_show_slips, .func (PySem.W.fnOf "show_slips" "show_slips" (defArgs s_show_slips) (defBody s_show_slips) (defScope s_show_slips) .none kV_show_slips dc_show_slips pm_show_slips an_show_slips cd_show_slips ct_show_slips), sl_show_slips⟩)
    (cf_show_slips : PySem.W.codeIn K cd_show_slips "show_slips" = true)
    (kf_show_slips : PySem.W.keepIn K (.ref a_show_slips) = true)
    (af__law_right : PySem.W.nsIn K mainGlobals "_law_right" = some (some (.ref a__law_right)))
    (lf__law_right : K.lookup a__law_right = some ⟨oc__law_right, od__law_right, .func (PySem.W.fnOf "_law_right" "_law_right" (defArgs s__law_right) (defBody s__law_right) (defScope s__law_right) .none kV__law_right dc__law_right pm__law_right an__law_right cd__law_right ct__law_right), sl__law_right⟩)
    (cf__law_right : PySem.W.codeIn K cd__law_right "_law_right" = true)
    (kf__law_right : PySem.W.keepIn K (.ref a__law_right) = true)
    (af__law_spoilt : PySem.W.nsIn K mainGlobals "_law_spoilt" = some (some (.ref a__law_spoilt)))
    (lf__law_spoilt : K.lookup a__law_spoilt = some ⟨oc__law_spoilt, od__law_spoilt, .func (PySem.W.fnOf "_law_spoilt" "_law_spoilt" (defArgs s__law_spoilt) (defBody s__law_spoilt) (defScope s__law_spoilt) .none kV__law_spoilt dc__law_spoilt pm__law_spoilt an__law_spoilt cd__law_spoilt ct__law_spoilt), sl__law_spoilt⟩)
    (cf__law_spoilt : PySem.W.codeIn K cd__law_spoilt "_law_spoilt" = true)
    (kf__law_spoilt : PySem.W.keepIn K (.ref a__law_spoilt) = true)
    (af__law_deed : PySem.W.nsIn K mainGlobals "_law_deed" = some (some (.ref a__law_deed)))
    (lf__law_deed : K.lookup a__law_deed = some ⟨oc__law_deed, od__law_deed, .func (PySem.W.fnOf "_law_deed" "_law_deed" (defArgs s__law_deed) (defBody s__law_deed) (defScope s__law_deed) .none kV__law_deed dc__law_deed pm__law_deed an__law_deed cd__law_deed ct__law_deed), sl__law_deed⟩)
    (cf__law_deed : PySem.W.codeIn K cd__law_deed "_law_deed" = true)
    (kf__law_deed : PySem.W.keepIn K (.ref a__law_deed) = true)
    (af__law_deed_text : PySem.W.nsIn K mainGlobals "_law_deed_text" = some (some (.ref a__law_deed_text)))
    (lf__law_deed_text : K.lookup a__law_deed_text = some ⟨oc__law_deed_text, od__law_deed_text, .func (PySem.W.fnOf "_law_deed_text" "_law_deed_text" (defArgs s__law_deed_text) (defBody s__law_deed_text) (defScope s__law_deed_text) .none kV__law_deed_text dc__law_deed_text pm__law_deed_text an__law_deed_text cd__law_deed_text ct__law_deed_text), sl__law_deed_text⟩)
    (cf__law_deed_text : PySem.W.codeIn K cd__law_deed_text "_law_deed_text" = true)
    (kf__law_deed_text : PySem.W.keepIn K (.ref a__law_deed_text) = true)
    (af__law_text : PySem.W.nsIn K mainGlobals "_law_text" = some (some (.ref a__law_text)))
    (lf__law_text : K.lookup a__law_text = some ⟨oc__law_text, od__law_text, .func (PySem.W.fnOf "_law_text" "_law_text" (defArgs s__law_text) (defBody s__law_text) (defScope s__law_text) .none kV__law_text dc__law_text pm__law_text an__law_text cd__law_text ct__law_text), sl__law_text⟩)
    (cf__law_text : PySem.W.codeIn K cd__law_text "_law_text" = true)
    (kf__law_text : PySem.W.keepIn K (.ref a__law_text) = true)
    (af_law : PySem.W.nsIn K mainGlobals "law" = some (some (.ref a_law)))
    (lf_law : K.lookup a_law = some ⟨oc_law, od_law, .func (PySem.W.fnOf "law" "law" (defArgs s_law) (defBody s_law) (defScope s_law) .none kV_law dc_law pm_law an_law cd_law ct_law), sl_law⟩)
    (cf_law : PySem.W.codeIn K cd_law "law" = true)
    (kf_law : PySem.W.keepIn K (.ref a_law) = true)
    (x_InvalidText : PySem.W.excIn K c_InvalidText [.type "ValueError", .type "Exception", .type "BaseException", .type "object"] "ValueError.__new__" = true)
    (xk_InvalidText : PySem.W.keepIn K (.ref c_InvalidText) = true)
    (xb_InvalidText : PySem.W.subIn K (.ref c_InvalidText) (.type "BaseException") = some true)
    (xt_InvalidText : PySem.W.typeIn K (.ref c_InvalidText) = some (.type "type"))
    (icn : PySem.W.specialIn K (.builtin "object.__class__") "__get__" = some (some (.builtin "getset_descriptor.__get__")))
    (ict : PySem.W.takesIn K (.builtin "object.__class__") = some true)
    (e1_InvalidText : PySem.W.findIn K (.ref c_InvalidText) "__getattribute__" = some (some (.builtin "BaseException.__getattribute__")))
    (e2_InvalidText : PySem.W.findIn K (.ref c_InvalidText) "__getattr__" = some none)
    (e3_InvalidText : PySem.W.hasDictIn K c_InvalidText = true)
    (e4_InvalidText : PySem.W.findIn K (.ref c_InvalidText) "__class__" = some (some (.builtin "object.__class__")))
    (e5_InvalidText : PySem.W.mroIn K c_InvalidText (.type "object") = some true)
    (em_InvalidText_SlipError : PySem.W.exmOne K (.ref c_InvalidText) (.ref c_SlipError) = some true)
    (q_InvalidText_InvalidText : PySem.W.kitOne K (.ref c_InvalidText) (.ref c_InvalidText) = some true)
    (q_InvalidText_ValueError : PySem.W.kitOne K (.ref c_InvalidText) (.type "ValueError") = some true)
    (qa_InvalidText_1 : PySem.W.kitAny K (.ref c_InvalidText) [.ref c_InvalidSheet, .ref c_InvalidCommand, .ref c_InvalidKind, .ref c_InvalidLot, .ref c_InvalidSlips, .ref c_InvalidColumn] = some false)
    (qa_InvalidText_2 : PySem.W.kitAny K (.ref c_InvalidText) [.ref c_NotAlike, .ref c_NotPossible, .ref c_NotReady, .ref c_NothingToUndo, .ref c_TooMany, .ref c_Waits] = some false)
    (nb_ValueError : PySem.W.nsIn K mainGlobals "ValueError" = some none)
    (nb_all : PySem.W.nsIn K mainGlobals "all" = some none)
    (nb_int : PySem.W.nsIn K mainGlobals "int" = some none)
    (nb_isinstance : PySem.W.nsIn K mainGlobals "isinstance" = some none)
    (nb_len : PySem.W.nsIn K mainGlobals "len" = some none)
    (nb_range : PySem.W.nsIn K mainGlobals "range" = some none)
    (nb_str : PySem.W.nsIn K mainGlobals "str" = some none)
    (ak_DIGITS : PySem.W.nsIn K mainGlobals "DIGITS" = some (some (.str "0123456789" tk_DIGITS)))
    (ak_MOST_BASE : PySem.W.nsIn K mainGlobals "MOST_BASE" = some (some (.int 12 tk_MOST_BASE)))
    (ak_MOST_ROWS : PySem.W.nsIn K mainGlobals "MOST_ROWS" = some (some (.int 4 tk_MOST_ROWS)))
    (ak_PIECE : PySem.W.nsIn K mainGlobals "PIECE" = some (some (.int 1000000000 tk_PIECE)))
    : ∃ fd : FuncData, (∀ (s : Shared) (v : Value), BindsTo s fd ⟨[v], []⟩ [("script", v)]) ∧ ∀ base : Heap, K.In base → base.Ns mainGlobals mg → FnOk P w K mg base CX0 7 fa fd ["script"] (spLaw K) := by
  have e := hfa.symm.trans (PySem.W.mg_of X G af_law)
  cases e
  exact ⟨_, fun s v => .of_eq rfl, fun base _ _ => law_fin (ok_law (txt_mk X G ac_SlipError ac_InvalidSheet ac_InvalidColumn ac_InvalidKind ac_InvalidLot ac_NotAlike ac_NotPossible ac_TooMany ac_Waits ac_InvalidText ac_InvalidCommand ac_NothingToUndo ac_NotReady ac_InvalidSlips af__law_cells lf__law_cells cf__law_cells kf__law_cells af__law_deck lf__law_deck cf__law_deck kf__law_deck af__law_draw lf__law_draw cf__law_draw kf__law_draw af__law_near lf__law_near cf__law_near kf__law_near af__law_deed_texts lf__law_deed_texts cf__law_deed_texts kf__law_deed_texts af__law_number lf__law_number cf__law_number kf__law_number af__law_is_text lf__law_is_text cf__law_is_text kf__law_is_text af_deeds_of lf_deeds_of cf_deeds_of kf_deeds_of af_show_integer lf_show_integer cf_show_integer kf_show_integer af_show_deed lf_show_deed cf_show_deed kf_show_deed af_read_deed lf_read_deed cf_read_deed kf_read_deed af_read_integer lf_read_integer cf_read_integer kf_read_integer af_read_slips lf_read_slips cf_read_slips kf_read_slips af__law_read lf__law_read cf__law_read kf__law_read af_show_slips lf_show_slips cf_show_slips kf_show_slips af__law_right lf__law_right cf__law_right kf__law_right af__law_spoilt lf__law_spoilt cf__law_spoilt kf__law_spoilt af__law_deed lf__law_deed cf__law_deed kf__law_deed af__law_deed_text lf__law_deed_text cf__law_deed_text kf__law_deed_text af__law_text lf__law_text cf__law_text kf__law_text af_law lf_law cf_law kf_law x_InvalidText xk_InvalidText xb_InvalidText xt_InvalidText icn ict e1_InvalidText e2_InvalidText e3_InvalidText e4_InvalidText e5_InvalidText em_InvalidText_SlipError q_InvalidText_InvalidText q_InvalidText_ValueError qa_InvalidText_1 qa_InvalidText_2 nb_ValueError nb_all nb_int nb_isinstance nb_len nb_range nb_str ak_DIGITS ak_MOST_BASE ak_MOST_ROWS ak_PIECE))⟩
theorem walk {l : PySem.W.OpenLaw} {q : Program} {loose : List Str} {XP : (Str → Option Value) → Heap → Prop} {YP : World → Heap → Prop} {d : DefRec} {K : Params → PySem.W.Frag} (hn : l.most = some 63) (hdf : d.params.defaults = [])
    (hY : ∀ (w : World) (h : Heap), YP w h → (K w.params).In h)
    (F : ∀ (w : World) (mg : Str → Option Value) (fa : Addr) (h : Heap), (K w.params).In h → h.Ns mainGlobals mg → mg d.name = some (.ref fa) →
      ∃ fd : FuncData, (∀ (s : Shared) (u : Value), BindsTo s fd ⟨[u], []⟩ [("script", u)]) ∧ ∀ base : Heap, (K w.params).In base → base.Ns mainGlobals mg → FnOk l.prog w (K w.params) mg base CX0 7 fa fd ["script"] (spLaw (K w.params))) :
    PySem.W.WalkO q loose XP YP l.row.toRowW d [] (fun f vs => PySem.call f vs) :=
  L2.walk_of (n := 63) (k := 7) (x := "script") (CX := fun _ => CX0) (sp := fun w => spLaw (K w.params)) hn (by decide) hdf ⟨rfl, by decide, by decide⟩ hY F (fun _ _ a ns hl _ hS => ⟨a, ns, rfl, hS, hl, fun _ => rfl⟩) fun _ _ _ _ _ z => z
end LW
open PySem PySem.W PyProof.Rows in
set_option maxRecDepth 100000 in
set_option maxHeartbeats 0 in
theorem PySem.Challenge.cw_sumslips_k59_strings_that_are_no_slips_holds : PySem.Challenge.rw_sumslips_k59_strings_that_are_no_slips.Holds := by
  w_on; o_law; k_head; (case hw => w_witness2)
  k_fill
  refine LW.walk (l := PySem.Challenge.rw_sumslips_k59_strings_that_are_no_slips) rfl rfl (fun w h Y => PySem.W.kIn_of Y) ?F
  case F =>
    intro w mg fa h KX G hmg
    refine' LW.fin KX G hmg ?ac_SlipError ?ac_InvalidSheet ?ac_InvalidColumn ?ac_InvalidKind ?ac_InvalidLot ?ac_NotAlike ?ac_NotPossible ?ac_TooMany ?ac_Waits ?ac_InvalidText ?ac_InvalidCommand ?ac_NothingToUndo ?ac_NotReady ?ac_InvalidSlips ?af__law_cells ?lf__law_cells ?cf__law_cells ?kf__law_cells ?af__law_deck ?lf__law_deck ?cf__law_deck ?kf__law_deck ?af__law_draw ?lf__law_draw ?cf__law_draw ?kf__law_draw ?af__law_near ?lf__law_near ?cf__law_near ?kf__law_near ?af__law_deed_texts ?lf__law_deed_texts ?cf__law_deed_texts ?kf__law_deed_texts ?af__law_number ?lf__law_number ?cf__law_number ?kf__law_number ?af__law_is_text ?lf__law_is_text ?cf__law_is_text ?kf__law_is_text ?af_deeds_of ?lf_deeds_of ?cf_deeds_of ?kf_deeds_of ?af_show_integer ?lf_show_integer ?cf_show_integer ?kf_show_integer ?af_show_deed ?lf_show_deed ?cf_show_deed ?kf_show_deed ?af_read_deed ?lf_read_deed ?cf_read_deed ?kf_read_deed ?af_read_integer ?lf_read_integer ?cf_read_integer ?kf_read_integer ?af_read_slips ?lf_read_slips ?cf_read_slips ?kf_read_slips ?af__law_read ?lf__law_read ?cf__law_read ?kf__law_read ?af_show_slips ?lf_show_slips ?cf_show_slips ?kf_show_slips ?af__law_right ?lf__law_right ?cf__law_right ?kf__law_right ?af__law_spoilt ?lf__law_spoilt ?cf__law_spoilt ?kf__law_spoilt ?af__law_deed ?lf__law_deed ?cf__law_deed ?kf__law_deed ?af__law_deed_text ?lf__law_deed_text ?cf__law_deed_text ?kf__law_deed_text ?af__law_text ?lf__law_text ?cf__law_text ?kf__law_text ?af_law ?lf_law ?cf_law ?kf_law ?x_InvalidText ?xk_InvalidText ?xb_InvalidText ?xt_InvalidText ?icn ?ict ?e1_InvalidText ?e2_InvalidText ?e3_InvalidText ?e4_InvalidText ?e5_InvalidText ?em_InvalidText_SlipError ?q_InvalidText_InvalidText ?q_InvalidText_ValueError ?qa_InvalidText_1 ?qa_InvalidText_2 ?nb_ValueError ?nb_all ?nb_int ?nb_isinstance ?nb_len ?nb_range ?nb_str ?ak_DIGITS ?ak_MOST_BASE ?ak_MOST_ROWS ?ak_PIECE
    (case ac_SlipError => first | k_is | kit_is | kts_exm | k_exc | decide | rfl)
    (case ac_InvalidSheet => first | k_is | kit_is | kts_exm | k_exc | decide | rfl)
    (case ac_InvalidColumn => first | k_is | kit_is | kts_exm | k_exc | decide | rfl)
    (case ac_InvalidKind => first | k_is | kit_is | kts_exm | k_exc | decide | rfl)
    (case ac_InvalidLot => first | k_is | kit_is | kts_exm | k_exc | decide | rfl)
    (case ac_NotAlike => first | k_is | kit_is | kts_exm | k_exc | decide | rfl)
    (case ac_NotPossible => first | k_is | kit_is | kts_exm | k_exc | decide | rfl)
    (case ac_TooMany => first | k_is | kit_is | kts_exm | k_exc | decide | rfl)
    (case ac_Waits => first | k_is | kit_is | kts_exm | k_exc | decide | rfl)
    (case ac_InvalidText => first | k_is | kit_is | kts_exm | k_exc | decide | rfl)
    (case ac_InvalidCommand => first | k_is | kit_is | kts_exm | k_exc | decide | rfl)
    (case ac_NothingToUndo => first | k_is | kit_is | kts_exm | k_exc | decide | rfl)
    (case ac_NotReady => first | k_is | kit_is | kts_exm | k_exc | decide | rfl)
    (case ac_InvalidSlips => first | k_is | kit_is | kts_exm | k_exc | decide | rfl)
    (case af__law_cells => first | k_is | kit_is | kts_exm | k_exc | decide | rfl)
    (case lf__law_cells => first | k_is | kit_is | kts_exm | k_exc | decide | rfl)
    (case cf__law_cells => first | k_is | kit_is | kts_exm | k_exc | decide | rfl)
    (case kf__law_cells => first | k_is | kit_is | kts_exm | k_exc | decide | rfl)
    (case af__law_deck => first | k_is | kit_is | kts_exm | k_exc | decide | rfl)
    (case lf__law_deck => first | k_is | kit_is | kts_exm | k_exc | decide | rfl)
    (case cf__law_deck => first | k_is | kit_is | kts_exm | k_exc | decide | rfl)
    (case kf__law_deck => first | k_is | kit_is | kts_exm | k_exc | decide | rfl)
    (case af__law_draw => first | k_is | kit_is | kts_exm | k_exc | decide | rfl)
    (case lf__law_draw => first | k_is | kit_is | kts_exm | k_exc | decide | rfl)
    (case cf__law_draw => first | k_is | kit_is | kts_exm | k_exc | decide | rfl)
    (case kf__law_draw => first | k_is | kit_is | kts_exm | k_exc | decide | rfl)
    (case af__law_near => first | k_is | kit_is | kts_exm | k_exc | decide | rfl)
    (case lf__law_near => first | k_is | kit_is | kts_exm | k_exc | decide | rfl)
    (case cf__law_near => first | k_is | kit_is | kts_exm | k_exc | decide | rfl)
    (case kf__law_near => first | k_is | kit_is | kts_exm | k_exc | decide | rfl)
    (case af__law_deed_texts => first | k_is | kit_is | kts_exm | k_exc | decide | rfl)
    (case lf__law_deed_texts => first | k_is | kit_is | kts_exm | k_exc | decide | rfl)
    (case cf__law_deed_texts => first | k_is | kit_is | kts_exm | k_exc | decide | rfl)
    (case kf__law_deed_texts => first | k_is | kit_is | kts_exm | k_exc | decide | rfl)
    (case af__law_number => first | k_is | kit_is | kts_exm | k_exc | decide | rfl)
    (case lf__law_number => first | k_is | kit_is | kts_exm | k_exc | decide | rfl)
    (case cf__law_number => first | k_is | kit_is | kts_exm | k_exc | decide | rfl)
    (case kf__law_number => first | k_is | kit_is | kts_exm | k_exc | decide | rfl)
    (case af__law_is_text => first | k_is | kit_is | kts_exm | k_exc | decide | rfl)
    (case lf__law_is_text => first | k_is | kit_is | kts_exm | k_exc | decide | rfl)
    (case cf__law_is_text => first | k_is | kit_is | kts_exm | k_exc | decide | rfl)
    (case kf__law_is_text => first | k_is | kit_is | kts_exm | k_exc | decide | rfl)
    (case af_deeds_of => first | k_is | kit_is | kts_exm | k_exc | decide | rfl)
    (case lf_deeds_of => first | k_is | kit_is | kts_exm | k_exc | decide | rfl)
    (case cf_deeds_of => first | k_is | kit_is | kts_exm | k_exc | decide | rfl)
    (case kf_deeds_of => first | k_is | kit_is | kts_exm | k_exc | decide | rfl)
    (case af_show_integer => first | k_is | kit_is | kts_exm | k_exc | decide | rfl)
    (case lf_show_integer => first | k_is | kit_is | kts_exm | k_exc | decide | rfl)
    (case cf_show_integer => first | k_is | kit_is | kts_exm | k_exc | decide | rfl)
    (case kf_show_integer => first | k_is | kit_is | kts_exm | k_exc | decide | rfl)
    (case af_show_deed => first | k_is | kit_is | kts_exm | k_exc | decide | rfl)
    (case lf_show_deed => first | k_is | kit_is | kts_exm | k_exc | decide | rfl)
    (case cf_show_deed => first | k_is | kit_is | kts_exm | k_exc | decide | rfl)
    (case kf_show_deed => first | k_is | kit_is | kts_exm | k_exc | decide | rfl)
    (case af_read_deed => first | k_is | kit_is | kts_exm | k_exc | decide | rfl)
    (case lf_read_deed => first | k_is | kit_is | kts_exm | k_exc | decide | rfl)
    (case cf_read_deed => first | k_is | kit_is | kts_exm | k_exc | decide | rfl)
    (case kf_read_deed => first | k_is | kit_is | kts_exm | k_exc | decide | rfl)
    (case af_read_integer => first | k_is | kit_is | kts_exm | k_exc | decide | rfl)
    (case lf_read_integer => first | k_is | kit_is | kts_exm | k_exc | decide | rfl)
    (case cf_read_integer => first | k_is | kit_is | kts_exm | k_exc | decide | rfl)
    (case kf_read_integer => first | k_is | kit_is | kts_exm | k_exc | decide | rfl)
    (case af_read_slips => first | k_is | kit_is | kts_exm | k_exc | decide | rfl)
    (case lf_read_slips => first | k_is | kit_is | kts_exm | k_exc | decide | rfl)
    (case cf_read_slips => first | k_is | kit_is | kts_exm | k_exc | decide | rfl)
    (case kf_read_slips => first | k_is | kit_is | kts_exm | k_exc | decide | rfl)
    (case af__law_read => first | k_is | kit_is | kts_exm | k_exc | decide | rfl)
    (case lf__law_read => first | k_is | kit_is | kts_exm | k_exc | decide | rfl)
    (case cf__law_read => first | k_is | kit_is | kts_exm | k_exc | decide | rfl)
    (case kf__law_read => first | k_is | kit_is | kts_exm | k_exc | decide | rfl)
    (case af_show_slips => first | k_is | kit_is | kts_exm | k_exc | decide | rfl)
    (case lf_show_slips => first | k_is | kit_is | kts_exm | k_exc | decide | rfl)
    (case cf_show_slips => first | k_is | kit_is | kts_exm | k_exc | decide | rfl)
    (case kf_show_slips => first | k_is | kit_is | kts_exm | k_exc | decide | rfl)
    (case af__law_right => first | k_is | kit_is | kts_exm | k_exc | decide | rfl)
    (case lf__law_right => first | k_is | kit_is | kts_exm | k_exc | decide | rfl)
    (case cf__law_right => first | k_is | kit_is | kts_exm | k_exc | decide | rfl)
    (case kf__law_right => first | k_is | kit_is | kts_exm | k_exc | decide | rfl)
    (case af__law_spoilt => first | k_is | kit_is | kts_exm | k_exc | decide | rfl)
    (case lf__law_spoilt => first | k_is | kit_is | kts_exm | k_exc | decide | rfl)
    (case cf__law_spoilt => first | k_is | kit_is | kts_exm | k_exc | decide | rfl)
    (case kf__law_spoilt => first | k_is | kit_is | kts_exm | k_exc | decide | rfl)
    (case af__law_deed => first | k_is | kit_is | kts_exm | k_exc | decide | rfl)
    (case lf__law_deed => first | k_is | kit_is | kts_exm | k_exc | decide | rfl)
    (case cf__law_deed => first | k_is | kit_is | kts_exm | k_exc | decide | rfl)
    (case kf__law_deed => first | k_is | kit_is | kts_exm | k_exc | decide | rfl)
    (case af__law_deed_text => first | k_is | kit_is | kts_exm | k_exc | decide | rfl)
    (case lf__law_deed_text => first | k_is | kit_is | kts_exm | k_exc | decide | rfl)
    (case cf__law_deed_text => first | k_is | kit_is | kts_exm | k_exc | decide | rfl)
    (case kf__law_deed_text => first | k_is | kit_is | kts_exm | k_exc | decide | rfl)
    (case af__law_text => first | k_is | kit_is | kts_exm | k_exc | decide | rfl)
    (case lf__law_text => first | k_is | kit_is | kts_exm | k_exc | decide | rfl)
    (case cf__law_text => first | k_is | kit_is | kts_exm | k_exc | decide | rfl)
    (case kf__law_text => first | k_is | kit_is | kts_exm | k_exc | decide | rfl)
    (case af_law => first | k_is | kit_is | kts_exm | k_exc | decide | rfl)
    (case lf_law => first | k_is | kit_is | kts_exm | k_exc | decide | rfl)
    (case cf_law => first | k_is | kit_is | kts_exm | k_exc | decide | rfl)
    (case kf_law => first | k_is | kit_is | kts_exm | k_exc | decide | rfl)
    (case x_InvalidText => first | k_is | kit_is | kts_exm | k_exc | decide | rfl)
    (case xk_InvalidText => first | k_is | kit_is | kts_exm | k_exc | decide | rfl)
    (case xb_InvalidText => first | k_is | kit_is | kts_exm | k_exc | decide | rfl)
    (case xt_InvalidText => first | k_is | kit_is | kts_exm | k_exc | decide | rfl)
    (case icn => first | k_is | kit_is | kts_exm | k_exc | decide | rfl)
    (case ict => first | k_is | kit_is | kts_exm | k_exc | decide | rfl)
    (case e1_InvalidText => first | k_is | kit_is | kts_exm | k_exc | decide | rfl)
    (case e2_InvalidText => first | k_is | kit_is | kts_exm | k_exc | decide | rfl)
    (case e3_InvalidText => first | k_is | kit_is | kts_exm | k_exc | decide | rfl)
    (case e4_InvalidText => first | k_is | kit_is | kts_exm | k_exc | decide | rfl)
    (case e5_InvalidText => first | k_is | kit_is | kts_exm | k_exc | decide | rfl)
    (case em_InvalidText_SlipError => first | k_is | kit_is | kts_exm | k_exc | decide | rfl)
    (case q_InvalidText_InvalidText => first | k_is | kit_is | kts_exm | k_exc | decide | rfl)
    (case q_InvalidText_ValueError => first | k_is | kit_is | kts_exm | k_exc | decide | rfl)
    (case qa_InvalidText_1 => first | k_is | kit_is | kts_exm | k_exc | decide | rfl)
    (case qa_InvalidText_2 => first | k_is | kit_is | kts_exm | k_exc | decide | rfl)
    (case nb_ValueError => first | k_is | kit_is | kts_exm | k_exc | decide | rfl)
    (case nb_all => first | k_is | kit_is | kts_exm | k_exc | decide | rfl)
    (case nb_int => first | k_is | kit_is | kts_exm | k_exc | decide | rfl)
    (case nb_isinstance => first | k_is | kit_is | kts_exm | k_exc | decide | rfl)
    (case nb_len => first | k_is | kit_is | kts_exm | k_exc | decide | rfl)
    (case nb_range => first | k_is | kit_is | kts_exm | k_exc | decide | rfl)
    (case nb_str => first | k_is | kit_is | kts_exm | k_exc | decide | rfl)
    (case ak_DIGITS => first | k_is | kit_is | kts_exm | k_exc | decide | rfl)
    (case ak_MOST_BASE => first | k_is | kit_is | kts_exm | k_exc | decide | rfl)
    (case ak_MOST_ROWS => first | k_is | kit_is | kts_exm | k_exc | decide | rfl)
    (case ak_PIECE => first | k_is | kit_is | kts_exm | k_exc | decide | rfl)
