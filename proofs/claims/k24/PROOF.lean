import PyProof.Rows.All
import Wide.All
import OpenK.AllK
import Wide.FinOn
import HandS.ForMost
import HandS.OwnEq
import HandS.IsInst
import HandS.Codes
import HandS.Wide
import HandS.Replace
import HandS.NoneIn
import HandS.Flow
import HandS.Style
import KE.GoesZip
import KE.GoesMore
import KE.GoesEnum
import HandS.Walk
import KE.KDictZip
import HandS.DictComp
import HandS.Strs
import HandS.CallLocal
import HandS.NestedK
import HandS.StrMore
import HandS.FStr
import HandS.Star
import KE.KCallOwn
import HandS.EndTab
import HandS.Dict
import KE.KExcInit
import HandS.ExcInit
import HandS.ExcIs
import HandS.ExcField
import HandS.MakeKw
import PyProof.ExcBaseAll.LookupError
import HandS.RaiseMore
import HandS.TryMany
import HandS.CallSlots
import PyProof.EqKinds
import HandS.Property
import OpenK.KOps
import PyProof.NeKinds
import HandS.Deep
import HandS.DeepEq
import HandS.Conv
import HandS.TupAny
import KE.KExcLine
import PySem.Challenge.RW_allrows_k24_sights_made_and_refused
set_option Elab.async false
set_option linter.all false
set_option maxRecDepth 100000
namespace LX
open PySem PySem.Spec PyProof.Rows L2 C8 SX
section
variable {X : Cx}
theorem call_list_str (hc : X.calm = true) : CallR X (.type "list") (fun (xs : List V) (H : Hp) (Q : VK) => ∃ l : List Nat, xs = [V.str (S l)] ∧ l.length ≤ sizeLine ∧ ∀ p, H p = none → Q (.ref p) (upd H p (.lst (l.map fun c => V.str (S [c]))))) := by
  intro pins s σ H xs us Q I r h
  obtain ⟨l, rfl, hl, q⟩ := h
  obtain ⟨u, rfl, ru⟩ := vals1 r
  obtain ⟨t, rfl⟩ := ru
  refine PySem.call_list_str (I.ok.hd hc) (S l) t (fun h' tk acc' c' hk hS hacc => ?_) (by simpa [S] using hl)
  have hv : Vals (l.map fun c => V.str (S [c])) acc'.toList := by
    obtain ⟨hsz, hit⟩ := hacc
    have hsz' : acc'.toList.length = l.length := by simpa using hsz
    have gen : ∀ (m : List Nat) (as : List Value), as.length = m.length → (∀ (j : Nat) (v : Value), as[j]? = some v → ∃ (c : Nat) (u : Tok), m[j]? = some c ∧ v = Value.str ⟨#[c]⟩ u) → Vals (m.map fun c => V.str (S [c])) as := by
      intro m
      induction m with
      | nil => intro as ha _; cases as with
        | nil => exact .nil
        | cons a as => cases ha
      | cons c m ih => intro as ha hh; cases as with
        | nil => cases ha
        | cons a as =>
          obtain ⟨c', u, e1, e2⟩ := hh 0 a rfl
          have : c = c' := Option.some.inj e1
          subst this
          exact .cons ⟨u, e2⟩ (ih as (Nat.succ.inj ha) fun j v e => hh (j + 1) v e)
    refine gen l acc'.toList hsz' fun j v e => ?_
    obtain ⟨c, u, e1, e2⟩ := hit j v (by simpa using e)
    exact ⟨c, u, by simpa [S] using e1, e2⟩
  refine ⟨.ref _, _, I.laid (t' := tk) (o := .lst (l.map fun c => V.str (S [c]))) hk (Nat.le_refl _) ⟨by simpa using hl, acc'.toList, c', hv, by simpa using hS⟩, rfl, q _ (I.hok.fresh (Nat.le_refl _))⟩
theorem op_mul_si : OpR X (binaryOp .Mult) (fun x y H Q => ∃ (z : Str) (k : Int), x = .str z ∧ y = .int k ∧ (k = 0 ∨ k = 1) ∧ Q (.str (if k = 0 then S [] else z)) H) := by
  intro pins s σ H x y v u Q I rx ry h
  obtain ⟨z, k, rfl, rfl, hk, q⟩ := h
  obtain ⟨t, rfl⟩ := rx
  obtain ⟨t', rfl⟩ := ry
  rcases hk with rfl | rfl
  · exact PySem.P.mul_str_none (by decide) (by decide) ⟨.str (S []), H, I.tok _, ⟨_, rfl⟩, q⟩
  · refine PySem.P.mul_str (by decide) (fun _ h => by simp at h) (fun _ h => by simp at h) ?_
    rw [if_neg (by decide), if_pos (by simp)]
    exact ⟨.str z, H, I, ⟨t, rfl⟩, q⟩
def tRevS (te ts : TE) : TE := fun σ H Q => te σ H fun x H1 => ts σ H1 fun y H2 => ∃ i, y = .int i ∧ (some i = some (-1) ∧ ∃ l : List Nat, x = .str (S l) ∧ l.length ≤ sizeLine ∧ Q (.str (S l.reverse)) H2)
theorem rev_indices (z : Str) : (Builtin.Str.strSliceIndices none none (-1) z.length).filterMap (z.cps[·]?) = z.cps.toList.reverse := by
  have e : Builtin.Str.strSliceIndices none none (-1) z.length = (List.range z.length).reverse := by
    show sliceRange ((z.length : Int) - 1) (-1) (-1) = _
    rw [PySem.W.krv_sliceRange]
    exact PySem.W.krv_range _
  rw [e, List.filterMap_reverse]
  exact congrArg List.reverse (PySem.W.krv_all z.cps)
theorem pe_revS {e st : Expr} {te ts : TE} {p3 pos : Pos} (he : PE X e te) (hs : PE X st ts) : PE X (.Subscript e (.Slice none none (some st) p3) pos) (tRevS te ts) := by
  refine ⟨fun pins s σ H Q I h => ?_⟩
  refine Subscript_ (thn (he.run pins s σ H _ I h) fun v s1 ⟨x, H1, I1, r1, q1⟩ => ?_)
  have hst : PO X (some st) (tPart ts) := po_some hs
  refine wpAny_Slice (thn (po_none.run pins s1 σ H1 (fun o H2 => o = none ∧ H2 = H1) I1 ⟨rfl, rfl⟩) fun vl s2 ⟨l, H2, I2, pl, el, e2⟩ => ?_)
  subst el e2
  refine thn (po_none.run pins s2 σ H2 (fun o H3 => o = none ∧ H3 = H2) I2 ⟨rfl, rfl⟩) fun vu s3 ⟨u, H3, I3, pu, eu, e3⟩ => ?_
  subst eu e3
  refine thn (hst.run pins s3 σ H3 (fun o H4 => o = some (-1) ∧ ∃ l : List Nat, x = .str (S l) ∧ l.length ≤ sizeLine ∧ Q (.str (S l.reverse)) H4) I3 q1) fun vs s4 ⟨o, H4, I4, ps, eo, l, ex, hl, q⟩ => ?_
  subst eo ex
  obtain ⟨t, rfl⟩ := r1
  have I5 : Inv X pins σ H4 { s4 with heap := s4.heap.push { cls := .type "slice", data := .fields #[vl, vu, vs] } } := I4.kept (t' := s4.toks) fun b ob q => Heap.get?_push_of_some _ q
  show wpAny (model X.prog X.w) X.A (subscriptTail e (.Slice none none (some st) p3) (.str (S l) t) (.ref s4.heap.objs.size)) (EP X pins σ Q) X.xe { s4 with heap := s4.heap.push { cls := .type "slice", data := .fields #[vl, vu, vs] } }
  obtain ⟨l', el, el2⟩ := IsPart.raw pl
  obtain ⟨u', eu, eu2⟩ := IsPart.raw pu
  obtain ⟨s', es, es2⟩ := IsPart.raw ps
  refine tail_any (ops := [.ref s4.heap.objs.size, .str (S l) t]) (typeIs_str _ _ _) F.slot_str_getitem.lookup ?_ (by with_unfolding_all rfl)
  refine wpAny_getItem_str_slice (l := l') (u := u') (st := s') ?_ (by rw [es2]; rfl) ?_
  · rw [el, eu, es]
    exact Heap.IsSliceOf.new ..
  · unfold sliceMade slicePicked
    rw [el2, eu2, es2]
    show Made.post (if ((-1 : Int) == 1 && (Builtin.Str.strSliceIndices none none (-1) (S l).length).length == (S l).length) = true then Made.val (.str (S l) t)
      else Made.str ⟨((Builtin.Str.strSliceIndices none none (-1) (S l).length).filterMap ((S l).cps[·]?)).toArray⟩) (EP X pins σ Q) _
    rw [if_neg (by simp), rev_indices]
    exact ⟨by simpa [Str.length] using hl, .str _, H4, I5.tok _, ⟨_, rfl⟩, q⟩
end
end LX
namespace LX
open PySem PySem.Spec PyProof.Rows L2 C8 SX
inductive Sr where
  | txt (x : Str) | lst (a : Addr) | tup (a : Addr)
def Sr.fp : Sr → List Addr
  | .txt _ => [] | .lst a => [a] | .tup a => [a]
def Sr.has (K : PySem.W.Frag) : Sr → Nat → Hp → Prop
  | .txt x, i, _ => i < x.cps.size
  | .lst a, i, H => ∃ xs, SqL K H a xs ∧ i < xs.length
  | .tup a, i, H => ∃ xs, SqT K H a xs ∧ i < xs.length
def Sr.val (K : PySem.W.Frag) : Sr → Nat → Hp → V → Prop
  | .txt x, i, _, v => ∃ c, x.cps[i]? = some c ∧ v = .str ⟨#[c]⟩
  | .lst a, i, H, v => ∀ xs, SqL K H a xs → xs[i]? = some v
  | .tup a, i, H, v => ∀ xs, SqT K H a xs → xs[i]? = some v
def Sr.upto (K : PySem.W.Frag) : Sr → Nat → Hp → Prop
  | .txt x, i, _ => i ≤ x.cps.size
  | .lst a, i, H => ∃ xs, SqL K H a xs ∧ i ≤ xs.length
  | .tup a, i, H => ∃ xs, SqT K H a xs ∧ i ≤ xs.length
def Sr.ends (K : PySem.W.Frag) : Sr → Nat → Hp → Prop
  | .txt x, i, _ => i = x.cps.size
  | .lst a, i, H => ∃ xs, SqL K H a xs ∧ i = xs.length
  | .tup a, i, H => ∃ xs, SqT K H a xs ∧ i = xs.length
def Sr.tn : Sr → Addr → Nat → Heap → Prop
  | .txt x, it, i, h => ∃ t, h.IsStrIter it (strIterType x) x t i
  | .lst a, it, i, h => h.IsListIter it a i
  | .tup a, it, i, h => h.IsTupleIter it a i
theorem Sr.tn_obj : ∀ {S : Sr} {it : Addr} {i : Nat} {h : Heap}, S.tn it i h → ∃ o, h.get? it = some o ∧ ∀ v, o.data ≠ .cell v
  | .txt _, _, _, _, ⟨_, o, e, _, d⟩ => ⟨o, e, fun v q => by rw [d] at q; cases q⟩
  | .lst _, _, _, _, h => let ⟨o, e, _, d⟩ := h; ⟨o, e, fun v q => by rw [d] at q; cases q⟩
  | .tup _, _, _, _, ⟨o, e, _, d⟩ => ⟨o, e, fun v q => by rw [d] at q; cases q⟩
theorem Sr.tn_keep : ∀ {S : Sr} {it : Addr} {i : Nat} {h h' : Heap}, S.tn it i h → (∀ o, h.get? it = some o → h'.get? it = some o) → S.tn it i h'
  | .txt _, _, _, _, _, ⟨t, o, e, r⟩, k => ⟨t, o, k o e, r⟩
  | .lst _, _, _, _, _, h, k => h.at k
  | .tup _, _, _, _, _, h, k => h.at k
section
variable {X : Cx} {pins : List (Addr × Obj)} {σ : L2.St} {H : Hp} {s : Shared}
structure DrawsAt (X : Cx) (S : Sr) (H : Hp) (s : Shared) (it : Addr) (i : Nat) (n : Nat) : Prop where
  ex : ∃ (Pp : Nat → Value → Prop) (St : Nat → Heap → Prop), (∀ A : Around, A.handled = none → Draws X.prog X.w A it (it :: S.fp) n Pp St) ∧ St i s.heap ∧
    (∀ u, Pp i u → ∃ v, S.val X.K i H v ∧ RelV v u) ∧ ∀ j h', St j h' → S.tn it j h'
theorem Sr.draws (S : Sr) {it : Addr} {i : Nat} (I : Inv X pins σ H s) (hit : ∀ a ∈ S.fp, a ≠ it) (st : S.tn it i s.heap) (hu : S.upto X.K i H) : ∃ n, DrawsAt X S H s it i n ∧ i ≤ n ∧ (S.has X.K i H → i < n) ∧ (S.ends X.K i H → i = n) := by
  cases S with
  | txt x =>
    obtain ⟨t, st⟩ := st
    refine ⟨x.cps.size, ⟨_, _, fun A hh => Draws.text hh it x t, st, fun u ⟨c, u', e, eu⟩ => ?_, fun j h' q => ⟨t, q⟩⟩, hu, fun h => h, fun h => h⟩
    exact ⟨.str ⟨#[c]⟩, ⟨c, e, rfl⟩, ⟨u', eu⟩⟩
  | lst a =>
    obtain ⟨xs, hx, hu⟩ := hu
    obtain ⟨its, rv, p, _⟩ := I.list hx
    have hl := rv.length
    refine ⟨its.toArray.size, ⟨_, _, fun A hh => Draws.list hh it a (hit a (List.mem_singleton.mpr rfl)) its.toArray, ⟨st, p.isList⟩, fun u hq => ?_, fun j h' q => q.1⟩, by simp; omega, fun ⟨ys, hy, h⟩ => ?_, fun ⟨ys, hy, h⟩ => ?_⟩
    · have hq' : its[i]? = some u := by simpa using hq
      have hlt : i < xs.length := by rw [hl]; exact (List.getElem?_eq_some_iff.mp hq').1
      obtain ⟨u', e, r⟩ := rv.get (List.getElem?_eq_getElem hlt)
      rw [hq'] at e
      rw [Option.some.inj e]
      exact ⟨xs[i], fun zs hz => by rw [I.list_inj hz hx]; exact List.getElem?_eq_getElem hlt, r⟩
    · rw [I.list_inj hy hx] at h; simp; omega
    · rw [I.list_inj hy hx] at h; simp; omega
  | tup a =>
    obtain ⟨xs, hx, hu⟩ := hu
    obtain ⟨its, rv, p, _⟩ := I.tuple hx
    have hl := rv.length
    refine ⟨its.toArray.size, ⟨_, _, fun A hh => Draws.tuple hh it a (hit a (List.mem_singleton.mpr rfl)) its.toArray, ⟨st, p⟩, fun u hq => ?_, fun j h' q => q.1⟩, by simp; omega, fun ⟨ys, hy, h⟩ => ?_, fun ⟨ys, hy, h⟩ => ?_⟩
    · have hq' : its[i]? = some u := by simpa using hq
      have hlt : i < xs.length := by rw [hl]; exact (List.getElem?_eq_some_iff.mp hq').1
      obtain ⟨u', e, r⟩ := rv.get (List.getElem?_eq_getElem hlt)
      rw [hq'] at e
      rw [Option.some.inj e]
      exact ⟨xs[i], fun zs hz => by rw [I.tuple_inj hz hx]; exact List.getElem?_eq_getElem hlt, r⟩
    · rw [I.tuple_inj hy hx] at h; simp; omega
    · rw [I.tuple_inj hy hx] at h; simp; omega
end
def ItzX (K : PySem.W.Frag) (S1 S2 : Sr) : It :=
  ⟨fun i H => S1.has K i H ∧ S2.has K i H,
    fun i H v H' => ∃ T x y, v = .ref T ∧ H T = none ∧ H' = upd H T (.tup [x, y]) ∧ S1.val K i H x ∧ S2.val K i H y,
    fun i H => S1.upto K i H ∧ S2.upto K i H ∧ (S1.ends K i H ∨ S2.ends K i H)⟩
theorem Sr.has_upto {K : PySem.W.Frag} : ∀ {S : Sr} {i : Nat} {H : Hp}, S.has K i H → S.upto K i H
  | .txt _, _, _, h => Nat.le_of_lt h
  | .lst _, _, _, ⟨xs, hx, h⟩ => ⟨xs, hx, Nat.le_of_lt h⟩
  | .tup _, _, _, ⟨xs, hx, h⟩ => ⟨xs, hx, Nat.le_of_lt h⟩
theorem turn_zipX {P : Program} {w : World} {K : PySem.W.Frag} {elts : List Expr} {kk : Nat} {tpos : Pos} {z TI TO i1 i2 : Addr} (S1 S2 : Sr) (D : ZipSep2 z TI TO i1 i2 (i1 :: S1.fp) (i2 :: S2.fp)) (n1 : ∀ a ∈ S1.fp, a ≠ i1) (n2 : ∀ a ∈ S2.fp, a ≠ i2) :
    Turn P w K (.Tuple elts kk tpos) (ItzX K S1 S2) [z, TI, TO, i1, i2] z (fun i h => IsZip h z TI TO .none ∧ IsTupOf2 h TI (.ref i1) (.ref i2) ∧ (∃ x y, IsTupOf2 h TO x y) ∧ S1.tn i1 i h ∧ S2.tn i2 i h) where
  mem := by simp
  obj := fun i h st c hc => by
    obtain ⟨hz, hTI, ⟨x, y, hTO⟩, h1, h2⟩ := st
    have e' : c = z ∨ c = TI ∨ c = TO ∨ c = i1 ∨ c = i2 := by simpa using hc
    rcases e' with q | q | q | q | q
    · rw [q]; exact ⟨_, hz, fun v q => nomatch q⟩
    · rw [q]; exact ⟨_, hTI, fun v q => nomatch q⟩
    · rw [q]; exact ⟨_, hTO, fun v q => nomatch q⟩
    · rw [q]; exact Sr.tn_obj h1
    · rw [q]; exact Sr.tn_obj h2
  keep := fun i h h' st k => by
    obtain ⟨hz, hTI, ⟨x, y, hTO⟩, h1, h2⟩ := st
    exact ⟨k z (by simp) _ hz, k TI (by simp) _ hTI, ⟨x, y, k TO (by simp) _ hTO⟩, Sr.tn_keep h1 fun o q => k i1 (by simp) o q, Sr.tn_keep h2 fun o q => k i2 (by simp) o q⟩
  item := by
    intro X hP hw hK hc i pins s σ H E I hf st hg
    subst hP hw hK
    obtain ⟨hz, hTI, ⟨x0, y0, hTO⟩, h1, h2⟩ := st
    obtain ⟨g1, g2⟩ := hg
    obtain ⟨m1, ⟨P1, St1, D1, st1, v1, t1⟩, _, lt1, _⟩ := S1.draws I n1 h1 (Sr.has_upto g1)
    obtain ⟨m2, ⟨P2, St2, D2, st2, v2, t2⟩, _, lt2, _⟩ := S2.draws I n2 h2 (Sr.has_upto g2)
    have hzl : z < s.heap.objs.size := Heap.lt_size hz
    refine wpAny_pyNext_zipD2_item D (D1 _ (I.ok.hd hc)) (D2 _ (I.ok.hd hc)) hz hTI hTO st1 st2 (lt1 g1) (lt2 g2) fun u1 u2 h' tk p1 p2 z' TO' st1' st2' hT hsz hk => ?_
    obtain ⟨x, hx, rx⟩ := v1 u1 p1
    obtain ⟨y, hy, ry⟩ := v2 u2 p2
    refine ⟨_, rfl, wpAny_letOwnedTupleGo_zip (s := { s with heap := h', toks := tk }) z' fun h'' z'' sb => ?_⟩
    have hT2 : h''.get? s.heap.objs.size = some { cls := .type "tuple", data := .seq #[u1, u2] } := (sb.2 _ (Nat.ne_of_gt hzl)).trans hT
    have new : ObjOk X.prog X.w (upd H s.heap.objs.size (.tup [x, y])) h'' s.heap.objs.size (.tup [x, y]) :=
      ⟨by show 2 ≤ sizeLine; decide, [u1, u2], .cons rx (.cons ry .nil), ⟨_, hT2, rfl, _, rfl⟩⟩
    have I1 : Inv X pins σ (upd H s.heap.objs.size (.tup [x, y])) { s with heap := h'', toks := tk } :=
      I.turnedNew (t' := tk) (ch := [z, TI, TO, i1, i2]) (fun c o hb q => (sb.2 c (fun q' => hb (by simp [q']))).trans (hk c o (fun q' => hb (by simp [q'])) (fun q' => hb (by simp [q'])) (fun q' => hb (by simp [q'])) (fun q' => hb (by simp [q'])) q)) hf (Nat.le_refl _) new
    refine ⟨.ref s.heap.objs.size, _, I1, rfl, ⟨_, x, y, rfl, I.hok.fresh (Nat.le_refl _), rfl, hx, hy⟩, ⟨z'', ?_, ⟨u1, u2, ?_⟩, ?_, ?_⟩, fun c hcm => ?_⟩
    · exact (sb.2 _ D.TIz).trans (hk _ _ D.TIz D.TITO D.TIi1 D.TIi2 hTI)
    · exact (sb.2 _ D.TOz).trans TO'
    · exact Sr.tn_keep (t1 _ _ st1') fun o q => (sb.2 _ D.zi1.symm).trans q
    · exact Sr.tn_keep (t2 _ _ st2') fun o q => (sb.2 _ D.zi2.symm).trans q
    · have hlt : c < s.heap.objs.size := by
        have e' : c = z ∨ c = TI ∨ c = TO ∨ c = i1 ∨ c = i2 := by simpa using hcm
        rcases e' with q | q | q | q | q
        · rw [q]; exact hzl
        · rw [q]; exact Heap.lt_size hTI
        · rw [q]; exact Heap.lt_size hTO
        · rw [q]; obtain ⟨_, e1, _⟩ := Sr.tn_obj h1; exact Heap.lt_size e1
        · rw [q]; obtain ⟨_, e2, _⟩ := Sr.tn_obj h2; exact Heap.lt_size e2
      rw [upd_ne (Nat.ne_of_lt hlt)]
      exact (hf c hcm).1
  done := by
    intro X hP hw hK hc i pins s σ H E I hf st hg
    subst hP hw hK
    obtain ⟨hz, hTI, ⟨x0, y0, hTO⟩, h1, h2⟩ := st
    obtain ⟨g1, g2, ge⟩ := hg
    obtain ⟨m1, ⟨P1, St1, D1, st1, v1, t1⟩, le1, _, eq1⟩ := S1.draws I n1 h1 g1
    obtain ⟨m2, ⟨P2, St2, D2, st2, v2, t2⟩, le2, _, eq2⟩ := S2.draws I n2 h2 g2
    exact wpAny_pyNext_zipD2_end D (D1 _ (I.ok.hd hc)) (D2 _ (I.ok.hd hc)) hz hTI hTO st1 st2 le1 le2 (ge.elim (fun q => .inl (eq1 q)) fun q => .inr (eq2 q)) fun h' tk hk => ⟨rfl, I.turnedL (t' := tk) (ch := [z, TI, TO, i1, i2]) (fun c o hb q =>
      hk c o (fun q' => hb (by simp [q'])) (fun q' => hb (by simp [q'])) (fun q' => hb (by simp [q'])) (fun q' => hb (by simp [q'])) q) hf⟩
  self := fun A i s Q E st h => wpAny_pyIter_zip st.1 h
def Sr.of : V → Sr → Prop
  | .str x, .txt y => x = y
  | .ref a, .lst b => a = b
  | .ref a, .tup b => a = b
  | _, _ => False
def Sr.there (K : PySem.W.Frag) (H : Hp) : Sr → Prop
  | .txt _ => True
  | .lst a => ∃ xs, SqL K H a xs
  | .tup a => ∃ xs, SqT K H a xs
theorem Sr.begins {X : Cx} {pins : List (Addr × Obj)} {σ : L2.St} {H : Hp} {s : Shared} (I : Inv X pins σ H s) {v : V} {u : Value} (r : RelV v u) : ∀ {S : Sr}, S.of v → S.there X.K H → ∃ (o : Obj) (HH : Heap → Prop), Begins u o HH ∧ HH s.heap ∧ (∀ a ∈ S.fp, a < s.heap.objs.size) ∧ ∀ (h : Heap) (it : Addr), h.get? it = some o → S.tn it 0 h
  | .txt y, e, _ => by
    cases v with
    | str x =>
      have e' : x = y := e
      subst e'
      obtain ⟨t, rfl⟩ := r
      exact ⟨_, _, begins_text x t, trivial, (fun _ h => nomatch h), fun h it q => ⟨t, _, q, rfl, rfl⟩⟩
    | _ => exact e.elim
  | .lst b, e, ⟨xs, hx⟩ => by
    cases v with
    | ref a =>
      have e' : a = b := e
      subst e'
      cases r
      obtain ⟨its, rv, p, _⟩ := I.list hx
      refine ⟨_, _, begins_list a its.toArray, p.isList, fun c h => ?_, fun h it q => ⟨_, q, rfl, rfl⟩⟩
      rw [List.mem_singleton.mp h]; exact p.lt
    | _ => exact e.elim
  | .tup b, e, ⟨xs, hx⟩ => by
    cases v with
    | ref a =>
      have e' : a = b := e
      subst e'
      cases r
      obtain ⟨its, rv, p, _⟩ := I.tuple hx
      refine ⟨_, _, begins_tuple a its.toArray, p, fun c h => ?_, fun h it q => ⟨_, q, rfl, rfl⟩⟩
      rw [List.mem_singleton.mp h]; exact p.lt
    | _ => exact e.elim
def iZipX (K : PySem.W.Frag) (ta : TA) : TI := fun σ H R => ta σ H fun vs H1 => ∃ (x y : V) (S1 S2 : Sr), vs = [x, y] ∧ S1.of x ∧ S2.of y ∧ S1.there K H1 ∧ S2.there K H1 ∧ R (ItzX K S1 S2) H1
theorem pi_zipX {X : Cx} {e e2 : Expr} {ta : TA} {p pos tpos : Pos} {elts : List Expr} {kk : Nat} (hg : Gl X "zip") (hm : X.mg "zip" = none) (ha : PA X [e, e2] ta)
    (hs : starEach [e, e2] X.env = (false, eval e X.env) :: starEach [e2] X.env := by rfl) (hpl : (backTo pos (starEach [e2] X.env)).any (·.1) = false := by rfl) :
    PI X (.Tuple elts kk tpos) (.Call (.Name "zip" p) [e, e2] [] pos) (iZipX X.K ta) := by
  refine ⟨fun pins s σ H R I h => ?_⟩
  refine Call_ (ld_blt I hg hm PyProof.Rows.boot_zip (PyProof.Rows.callWith_type1 (thn (ha.run pos pins s σ H _ I h) fun us s1 ⟨vs, H1, I1, r1, q1⟩ => ?_) hs hpl))
  obtain ⟨x, y, S1, S2, ex, e1, e2, th1, th2, q⟩ := q1
  subst ex
  obtain ⟨u, u', rfl, r, r'⟩ := vals2 r1
  obtain ⟨o1, HH1, B1, b1, f1, t1⟩ := Sr.begins I1 r e1 th1
  obtain ⟨o2, HH2, B2, b2, f2, t2⟩ := Sr.begins I1 r' e2 th2
  have fresh5 : ∀ c, c ∈ [s1.heap.objs.size + 4, s1.heap.objs.size + 2, s1.heap.objs.size + 3, s1.heap.objs.size, s1.heap.objs.size + 1] → FpOk X pins H1 c := fun c hcm => by
    have e' : c = s1.heap.objs.size + 4 ∨ c = s1.heap.objs.size + 2 ∨ c = s1.heap.objs.size + 3 ∨ c = s1.heap.objs.size ∨ c = s1.heap.objs.size + 1 := by simpa using hcm
    have hle : s1.heap.objs.size ≤ c := by
      rcases e' with z | z | z | z | z
      · rw [z]; exact Nat.le_add_right _ _
      · rw [z]; exact Nat.le_add_right _ _
      · rw [z]; exact Nat.le_add_right _ _
      · rw [z]; exact Nat.le_refl _
      · rw [z]; exact Nat.le_add_right _ _
    exact I1.fpOk hle (I1.hok.fresh hle)
  refine zip_begins2 B1 B2 b1 b2 fun h' hz hTI hTO h1 h2 hsz hk => wpAny_pyIter_zip hz ?_
  have I2 : Inv X pins σ H1 { s1 with heap := h' } := I1.kept (t' := s1.toks) hk
  exact ⟨s1.heap.objs.size + 4, [s1.heap.objs.size + 4, s1.heap.objs.size + 2, s1.heap.objs.size + 3, s1.heap.objs.size, s1.heap.objs.size + 1], _, _, H1, rfl, I2,
    turn_zipX S1 S2 (PySem.zip_sep2 f1 f2) (fun a ha => Nat.ne_of_lt (f1 a ha)) (fun a ha => Nat.ne_of_lt (Nat.lt_succ_of_lt (f2 a ha))), ⟨hz, hTI, ⟨_, _, hTO⟩, t1 _ _ h1, t2 _ _ h2⟩, fresh5, q⟩
end LX
namespace LX
open PySem PySem.Spec PyProof.Rows L2 C8 SX
section
variable {prog : Program} {w : World} {A : Around} {E : Value → Shared → Prop} {s : Shared} {K : PySem.W.Frag} {x y C L f : Addr} {h₀ : Heap} {m : Str → Option Value} {ox : Obj} {od : Option Obj}
theorem objNe_own (X : K.In s.heap) (I : PySem.W.InstAt s.heap x ox C od) (hs : PySem.W.findIn K (.ref C) "__eq__" = some (some (.ref f))) (hf : PySem.W.isFn K (.ref f) = true) (hu : A.units < cLine) {Q : Fin → Shared → Prop}
    (hcall : wpAny (model prog w) A (call (.ref f) [.ref x, .ref y]) (fun v s' => ∃ b, v = .bool b ∧ Q (.done (.ret (.bool (!b)))) s') E s) :
    wpAny (model prog w) A (Builtin.«object.__ne__» ⟨[.ref x, .ref y], []⟩) Q E s := by
  unfold Builtin.«object.__ne__»
  repeat (first
    | with_reducible refine wpAny_cRoomFor hu ?_
    | (refine wpAny_bind (m := callSpecialIfBound? (.ref x) (Str.ofString "__eq__") [.ref y])
        (PySem.W.ifBound_K X I hs hf (wpAny_mono hcall (fun r s' hr => by
          obtain ⟨b, rfl, hq⟩ := hr
          repeat (first | exact hq | exact wpAny_pure hq | exact wpAny_truthy_bool hq | (refine wpAny_bind (m := truthy (.bool _)) (wpAny_truthy_bool ?_)) | wp_step)) fun _ _ e => e)))
    | wp_step)
theorem ifBound_ne {M : Model} {args : List Value} {Q : Option Value → Shared → Prop} (X : K.In s.heap) (I : PySem.W.InstAt s.heap x ox C od) (hs : PySem.W.findIn K (.ref C) "__ne__" = some (some (.builtin "object.__ne__")))
    (h : wpAny M A (call (.builtin "object.__ne__") (.ref x :: args)) (fun v => Q (some v)) E s) : wpAny M A (callSpecialIfBound? (.ref x) "__ne__" args) Q E s := by
  simp only [callSpecialIfBound?, bindSpecialIfBound?]
  refine wpAny_holding (wpAny_bind (wpAny_bind (wpAny_bind (I.type.here ((PySem.W.looks_findIn X hs).here ?_)))))
  simp only [F.cmp_object.ne.bind]
  refine wpAny_bind (wpAny_askSetting (wpAny_ite ?_))
  have fin : wpAny M A (call (.builtin "object.__ne__") ([.ref x] ++ args) >>= fun v => pure (some v)) Q E s := wpAny_bind (wpAny_mono h (fun v s' h' => wpAny_pure h') fun _ _ h' => h')
  split
  · exact wpAny_bind (wpAny_pure (wpAny_pure fin))
  · exact wpAny_tryCatch (wpAny_bind (wpAny_pure (wpAny_pure fin)))
theorem check_ne {M : Model} {Q : Unit → Shared → Prop} (X : K.In s.heap) (I : PySem.W.InstAt s.heap x ox C od) (hm : PySem.W.mroIn K C (.type "object") = some true) (hq : Q () s) :
    wpAny M A (checkBuiltinCall "object.__ne__" ⟨[.ref x, .ref y], []⟩) Q E s := by
  have L0 := I.type (M := M)
  have L1 := PySem.W.looks_mroIn (M := M) X hm
  simp only [checkBuiltinCall, F.cmpKind_ne, F.cmpSplit_ne]
  have ha := F.cmpArgs_ne (.ref x) (.ref y)
  refine wpAny_bind ?_
  unfold isInstance
  repeat lk
  exact hq
theorem rcNe_own (hu : A.units + 1 < cLine) (FF : Fr h₀ L s.heap m) (X₀ : K.In h₀) (I : PySem.W.InstAt s.heap x ox C od) (hb : PySem.W.Looks (model prog w) s.heap (typeOf (.ref y)) (.ref C))
    (hs : PySem.W.findIn K (.ref C) "__eq__" = some (some (.ref f))) (hf : PySem.W.isFn K (.ref f) = true) (hn : PySem.W.findIn K (.ref C) "__ne__" = some (some (.builtin "object.__ne__"))) (hm : PySem.W.mroIn K C (.type "object") = some true)
    {Q : Value → Shared → Prop} (hcall : wpAny (model prog w) A.in1 (call (.ref f) [.ref x, .ref y]) (fun v s' => ∃ b, v = .bool b ∧ Q (.bool (!b)) s') E s) :
    wpAny (model prog w) A (richCompare .NotEq (.ref x) (.ref y)) Q E s := by
  have X := X₀.keeps FF.keep
  have one : wpAny (model prog w) A (tryCompare (.ref x) (cmpInfo .NotEq).2.1 (.ref y)) (fun r s' => ∃ v, r = some v ∧ Q v s') E s := by
    show wpAny (model prog w) A (tryCompare (.ref x) "__ne__" (.ref y)) (fun r s' => ∃ v, r = some v ∧ Q v s') E s
    unfold tryCompare
    refine wpAny_bind (ifBound_ne X I hn (wpAny_call (codeAny_call_builtin F.cmp_object.ne.plain F.cmpEntry_ne (check_ne X I hm (objNe_own (A := A.in1) X I hs hf (by show A.units + 1 < cLine; exact hu) (wpAny_mono hcall (fun v s' hv => ?_) fun _ _ e => e))))))
    obtain ⟨b, rfl, hq⟩ := hv
    first | exact ⟨b, rfl, wpAny_pure ⟨_, rfl, hq⟩⟩ | exact ⟨b, rfl, wpAny_pure (wpAny_pure ⟨_, rfl, hq⟩)⟩ | exact ⟨b, rfl, ⟨_, rfl, hq⟩⟩
  unfold richCompare
  simp only [oneThing_ref]
  refine wpAny_holding (wpAny_bind (wpAny_cRoomFor (by omega) ?_))
  refine wpAny_bind (I.type.here (wpAny_bind (hb.here ?_)))
  rw [show (Value.ref C != Value.ref C) = false from by simp]
  simp only [Bool.false_eq_true, if_false]
  refine wpAny_bind (wpAny_pure ?_)
  simp only [Bool.false_eq_true, if_false]
  refine wpAny_bind (wpAny_mono one (fun r s' z => ?_) fun _ _ e => e)
  obtain ⟨v, rfl, hq⟩ := z
  first | exact wpAny_pure hq | exact hq
end
section
variable {X : Cx} {k j : Nat} {C : Addr} {sp : Sp}
theorem met_run {mth : Str} {pins : List (Addr × Obj)} {σ : L2.St} {H : Hp} {s : Shared} {A : Around} {a b : Addr} {Q : Value → Shared → Prop} (c : Met X.prog X.w X.K X.mg X.base k C mth sp []) (hr : Room k A) (hfr : A.frames = X.A.frames) (I : Inv X pins σ H s)
    {R : VK} (hsp : sp [.ref a, .ref b] H R C8.E0) (hQ : ∀ v z H' s', Inv X pins σ H' s' → RelV z v → R z H' → Q v s') :
    ∃ f, PySem.W.findIn X.K (.ref C) mth = some (some (.ref f)) ∧ PySem.W.isFn X.K (.ref f) = true ∧ wpAny (model X.prog X.w) A (call (.ref f) [.ref a, .ref b]) Q X.xe s := by
  obtain ⟨f, fd, ps, ds, hc, hm, F, hb, hd⟩ := c.ex
  refine ⟨f, hm.at_, hm.fn, ?_⟩
  have e0 : Env0 X.prog X.w X.K X.mg X.base A X.stack s H := by
    have e := I.env0
    exact ⟨by rw [hfr]; exact e.frames, e.mod, e.bs, e.bsz, e.funs, e.frf, e.hok, e.bare⟩
  have hds : ds = [] := by cases hd; rfl
  subst hds
  have hl := F.len _ _ _ _ hsp
  have r2 : Vals [V.ref a, V.ref b] [Value.ref a, Value.ref b] := .cons rfl (.cons rfl .nil)
  refine wpAny_call (codeAny_mono (F.run A X.stack s H ⟨[.ref a, .ref b], []⟩ [.ref a, .ref b] [.ref a, .ref b] _ C8.E0 hr e0 (by
    have := hb s [.ref a, .ref b] I.kIn (by simpa using hl)
    simpa using this) r2 hsp) fun r s' hq => ?_)
  cases r with
  | error e => exact C8.pass0 (E := C8.E0) pins σ H s e s' I hq
  | ok fl =>
    cases fl with
    | ret w =>
      obtain ⟨z, H', I', rz, q⟩ := I.after hq
      exact hQ w z H' s' I' rz q
    | next => exact False.elim hq
    | brk => exact False.elim hq
    | cont => exact False.elim hq
structure NeC (K : PySem.W.Frag) (C : Addr) : Prop where
  ne : PySem.W.findIn K (.ref C) "__ne__" = some (some (.builtin "object.__ne__"))
  ob : PySem.W.mroIn K C (.type "object") = some true
  sf : PySem.W.selfFirst K C = true
def rEqI (C : Addr) (sp : Sp) : R2 := fun x y H Q => ∃ a b dx dy fs gs, x = .ref a ∧ y = .ref b ∧ H a = some (.ins C dx fs) ∧ H b = some (.ins C dy gs) ∧ sp [.ref a, .ref b] H (fun v H' => ∃ r, v = .bl r ∧ Q (.bl r) H') C8.E0
def rNeI (C : Addr) (sp : Sp) : R2 := fun x y H Q => ∃ a b dx dy fs gs, x = .ref a ∧ y = .ref b ∧ H a = some (.ins C dx fs) ∧ H b = some (.ins C dy gs) ∧ sp [.ref a, .ref b] H (fun v H' => ∃ r, v = .bl r ∧ Q (.bl (!r)) H') C8.E0
def rOpI (C : Addr) (sp : Sp) : R2 := fun x y H Q => ∃ a b dx dy fs gs, x = .ref a ∧ y = .ref b ∧ H a = some (.ins C dx fs) ∧ H b = some (.ins C dy gs) ∧ sp [.ref a, .ref b] H (fun v H' => ∃ p, v = .ref p ∧ Q (.ref p) H') C8.E0
theorem op_eqI (c : Met X.prog X.w X.K X.mg X.base k C "__eq__" sp []) (hr : Room j X.A) (hk : k ≤ j) : OpR X (compareOp .Eq) (rEqI C sp) := by
  intro pins s σ H x y v u Q I rx ry h
  obtain ⟨a, b, dx, dy, fs, gs, rfl, rfl, ha, hb, hsp⟩ := h
  cases rx
  cases ry
  obtain ⟨mA, J, _⟩ := ins_get I.hok ha
  obtain ⟨mB, J', _⟩ := ins_get I.hok hb
  obtain ⟨od, J, _⟩ := J.look
  obtain ⟨od', J', _⟩ := J'.look
  obtain ⟨m, hF⟩ := I.fr
  obtain ⟨f, hs, hf, hw⟩ := met_run (Q := PySem.W.CmpBack (EP X pins σ Q)) c (hr.mono hk) rfl I hsp (fun v z H' s' I' rz q => by
    obtain ⟨r, rfl, q⟩ := q
    cases rz
    exact ⟨.bl r, H', I', rfl, q⟩)
  exact PySem.W.cmp_K (op := .Eq) (tb := .ref C) hr.units0 hF I.ok.mod.kin J J'.type (by simp [PySem.W.notFirst]) hs hf hw
theorem op_neI (n : NeC X.K C) (c : Met X.prog X.w X.K X.mg X.base k C "__eq__" sp []) (hr : Room j X.A) (hk : k + 1 ≤ j) : OpR X (compareOp .NotEq) (rNeI C sp) := by
  intro pins s σ H x y v u Q I rx ry h
  obtain ⟨a, b, dx, dy, fs, gs, rfl, rfl, ha, hb, hsp⟩ := h
  cases rx
  cases ry
  obtain ⟨mA, J, _⟩ := ins_get I.hok ha
  obtain ⟨mB, J', _⟩ := ins_get I.hok hb
  obtain ⟨od, J, _⟩ := J.look
  obtain ⟨od', J', _⟩ := J'.look
  obtain ⟨m, hF⟩ := I.fr
  obtain ⟨f, hs, hf, hw⟩ := met_run (Q := fun v s' => ∃ b, v = .bool b ∧ EP X pins σ Q (.bool (!b)) s') c (hr.mono hk).in1 rfl I hsp (fun v z H' s' I' rz q => by
    obtain ⟨r, rfl, q⟩ := q
    cases rz
    exact ⟨r, rfl, .bl (!r), H', I', rfl, q⟩)
  exact rcNe_own (hu_of hr) hF I.ok.mod.kin J J'.type hs hf n.ne n.ob hw
theorem op_mulI (n : NeC X.K C) (c : Met X.prog X.w X.K X.mg X.base k C "__mul__" sp []) (hr : Room j X.A) (hk : k ≤ j) : OpR X (binaryOp .Mult) (rOpI C sp) := by
  intro pins s σ H x y v u Q I rx ry h
  obtain ⟨a, b, dx, dy, fs, gs, rfl, rfl, ha, hb, hsp⟩ := h
  cases rx
  cases ry
  obtain ⟨mA, J, _⟩ := ins_get I.hok ha
  obtain ⟨mB, J', _⟩ := ins_get I.hok hb
  obtain ⟨od, J, _⟩ := J.look
  obtain ⟨od', J', _⟩ := J'.look
  obtain ⟨m, hF⟩ := I.fr
  obtain ⟨f, hs, hf, hw⟩ := met_run (Q := PySem.W.CmpBack (EP X pins σ Q)) c (hr.mono hk) rfl I hsp (fun v z H' s' I' rz q => by
    obtain ⟨p, rfl, q⟩ := q
    cases rz
    exact ⟨.ref p, H', I', rfl, q⟩)
  exact PySem.W.binop_K (op := .Mult) hF I.ok.mod.kin J J'.type n.sf hs hf hw
theorem op_addI (n : NeC X.K C) (c : Met X.prog X.w X.K X.mg X.base k C "__add__" sp []) (hr : Room j X.A) (hk : k ≤ j) : OpR X (binaryOp .Add) (rOpI C sp) := by
  intro pins s σ H x y v u Q I rx ry h
  obtain ⟨a, b, dx, dy, fs, gs, rfl, rfl, ha, hb, hsp⟩ := h
  cases rx
  cases ry
  obtain ⟨mA, J, _⟩ := ins_get I.hok ha
  obtain ⟨mB, J', _⟩ := ins_get I.hok hb
  obtain ⟨od, J, _⟩ := J.look
  obtain ⟨od', J', _⟩ := J'.look
  obtain ⟨m, hF⟩ := I.fr
  obtain ⟨f, hs, hf, hw⟩ := met_run (Q := PySem.W.CmpBack (EP X pins σ Q)) c (hr.mono hk) rfl I hsp (fun v z H' s' I' rz q => by
    obtain ⟨p, rfl, q⟩ := q
    cases rz
    exact ⟨.ref p, H', I', rfl, q⟩)
  exact PySem.W.binop_K (op := .Add) hF I.ok.mod.kin J J'.type n.sf hs hf hw
end
end LX
namespace LX
open PySem PySem.Spec PyProof.Rows L2 C8 SX
section
variable {X : Cx} {K : PySem.W.Frag} {H : Hp}
def txs (xs : List (List Nat)) : List V := xs.map fun l => V.str (S l)
theorem txs_len (xs : List (List Nat)) : (txs xs).length = xs.length := List.length_map ..
theorem dp_strs : ∀ xs : List (List Nat), DpAll K H (txs xs) (xs.map fun l => PyData.str (S l))
  | [] => .nil
  | x :: xs => .cons (.str _) (dp_strs xs)
theorem eqv_strs : ∀ xs ys : List (List Nat), PyData.eqvAll (xs.map fun l => PyData.str (S l)) (ys.map fun l => PyData.str (S l)) = decide (xs = ys)
  | [], [] => rfl
  | [], _ :: _ => rfl
  | _ :: _, [] => rfl
  | x :: xs, y :: ys => by
    show (S x == S y && PyData.eqvAll (xs.map fun l => PyData.str (S l)) (ys.map fun l => PyData.str (S l))) = _
    rw [S_beq_eq, eqv_strs xs ys, ← Bool.decide_and]
    exact decide_eq_decide.mpr (by rw [List.cons.injEq])
def Small (xs : List (List Nat)) : Prop := ∀ l ∈ xs, ∀ c ∈ l, c < 1114112
theorem lay_strs : ∀ {xs : List (List Nat)}, Small xs → PyData.canLayAll0 (xs.map fun l => PyData.str (S l)) = true ∧ PyData.depthAll (xs.map fun l => PyData.str (S l)) ≤ 1
  | [], _ => ⟨rfl, Nat.zero_le _⟩
  | x :: xs, h => by
    obtain ⟨h1, h2⟩ := lay_strs (xs := xs) fun l hl => h l (List.mem_cons_of_mem _ hl)
    refine ⟨?_, ?_⟩
    · show (PyData.canLay0 (.str (S x)) && PyData.canLayAll0 (xs.map fun l => PyData.str (S l))) = true
      rw [h1, Bool.and_true]
      show (S x).cps.all (· < 0x110000) = true
      rw [← Array.all_toList, List.all_eq_true]
      exact fun c hc => decide_eq_true (h x List.mem_cons_self c hc)
    · show max (PyData.depth (.str (S x))) (PyData.depthAll (xs.map fun l => PyData.str (S l))) ≤ 1
      have e : PyData.depth (.str (S x)) ≤ 1 := Nat.zero_le _
      omega
theorem shaped_lst {xs : List (List Nat)} (h : Small xs) : SeqAt.shaped (.list (xs.map fun l => PyData.str (S l))) = true := by
  obtain ⟨h1, h2⟩ := lay_strs h
  show (PyData.canLayAll0 _ && decide (PyData.depthAll _ + 1 ≤ 64)) = true
  rw [h1, Bool.true_and, decide_eq_true_eq]; omega
theorem shaped_tup {xs : List (List Nat)} (h : Small xs) : SeqAt.shaped (.tuple (xs.map fun l => PyData.str (S l))) = true := by
  obtain ⟨h1, h2⟩ := lay_strs h
  show (PyData.canLayAll0 _ && decide (PyData.depthAll _ + 1 ≤ 64)) = true
  rw [h1, Bool.true_and, decide_eq_true_eq]; omega
def rSs (K : PySem.W.Frag) (f : Bool → Bool) : R2 := fun x y H Q => ∃ (a b : Addr) (xs ys : List (List Nat)), x = .ref a ∧ y = .ref b ∧ ((SqL K H a (txs xs) ∧ SqL K H b (txs ys)) ∨ (SqT K H a (txs xs) ∧ SqT K H b (txs ys))) ∧ Small xs ∧ Small ys ∧ Q (.bl (f (decide (xs = ys)))) H
theorem op_eqSs {k : Nat} (hr : Room k X.A) : OpR X (compareOp .Eq) (rSs X.K fun b => b) := by
  intro pins s σ H x y v u Q I rx ry h
  obtain ⟨a, b, xs, ys, rfl, rfl, hh, hx, hy, q⟩ := h
  rcases hh with ⟨h1, h2⟩ | ⟨h1, h2⟩
  · exact op_eqD hr.units pins s σ H _ _ v u Q I rx ry ⟨_, _, .lst h1 (dp_strs xs), .lst h2 (dp_strs ys), shaped_lst hx, shaped_lst hy, by rw [show PyData.eqv (.list (xs.map fun l => PyData.str (S l))) (.list (ys.map fun l => PyData.str (S l))) = _ from eqv_strs xs ys]; exact q⟩
  · exact op_eqD hr.units pins s σ H _ _ v u Q I rx ry ⟨_, _, .tup h1 (dp_strs xs), .tup h2 (dp_strs ys), shaped_tup hx, shaped_tup hy, by rw [show PyData.eqv (.tuple (xs.map fun l => PyData.str (S l))) (.tuple (ys.map fun l => PyData.str (S l))) = _ from eqv_strs xs ys]; exact q⟩
theorem op_neSs {k : Nat} (hr : Room k X.A) : OpR X (compareOp .NotEq) (rSs X.K fun b => !b) := by
  intro pins s σ H x y v u Q I rx ry h
  obtain ⟨a, b, xs, ys, rfl, rfl, hh, hx, hy, q⟩ := h
  rcases hh with ⟨h1, h2⟩ | ⟨h1, h2⟩
  · exact op_neD hr.units pins s σ H _ _ v u Q I rx ry ⟨_, _, .lst h1 (dp_strs xs), .lst h2 (dp_strs ys), shaped_lst hx, shaped_lst hy, by rw [show PyData.eqv (.list (xs.map fun l => PyData.str (S l))) (.list (ys.map fun l => PyData.str (S l))) = _ from eqv_strs xs ys]; exact q⟩
  · exact op_neD hr.units pins s σ H _ _ v u Q I rx ry ⟨_, _, .tup h1 (dp_strs xs), .tup h2 (dp_strs ys), shaped_tup hx, shaped_tup hy, by rw [show PyData.eqv (.tuple (xs.map fun l => PyData.str (S l))) (.tuple (ys.map fun l => PyData.str (S l))) = _ from eqv_strs xs ys]; exact q⟩
end
theorem occ_idx {l : List Nat} {c : Nat} (h : c ∈ l) : ∃ r, Builtin.Str.occurrences (S l) (S [c]) 0 (S l).length 1 = l.idxOf c :: r := by
  have hlt := List.idxOf_lt_length_of_mem h
  have hat : StrLaws.At (S l) (S [c]) (S l).length (l.idxOf c) := (StrLaws.subAt_one (S l) c _).mpr (by show l[l.idxOf c]? = some c; rw [List.getElem?_eq_getElem hlt, List.getElem_idxOf hlt])
  rcases StrLaws.occ_head (S l) (S [c]) 1 (Nat.le_refl _) with ⟨_, hn⟩ | ⟨i, r, e, ha, hn⟩
  · exact absurd hat (hn _)
  · refine ⟨r, ?_⟩
    have hi : l[i]? = some c := (StrLaws.subAt_one (S l) c i).mp ha
    have h1 : ¬ l.idxOf c < i := fun z => hn _ z hat
    have h2 : ¬ i < l.idxOf c := fun z => by
      obtain ⟨hl, e⟩ := List.getElem?_eq_some_iff.mp hi
      have q := List.not_of_lt_findIdx (p := (· == c)) (xs := l) z
      simp [e] at q
    have : i = l.idxOf c := by omega
    rw [e, this]
structure Keep (Rel : Hp → Hp → Prop) (H1 : Hp) : Prop where
  refl : Rel H1 H1
  trans : ∀ H H', Rel H1 H → Rel H H' → Rel H1 H'
  put : ∀ H D o, Rel H1 H → H1 D = none → Rel H1 (upd H D o)
  get : ∀ H H' D o, Rel H H' → H1 D = none → Rel H1 H → H D = some o → H' D = some o
theorem keep_same {H1 : Hp} : Keep Same H1 where
  refl := Same.refl _
  trans := fun _ _ a b => a.trans b
  put := fun H D o s hD b u e => by rw [upd_ne (ne_of_none e hD)]; exact s b u e
  get := fun H H' D o s _ _ e => s _ _ e
def Bk (Pb : HO → Prop) (b : Addr) (H H' : Hp) : Prop := (∀ a o, a ≠ b → H a = some o → H' a = some o) ∧ ∃ o, H' b = some o ∧ Pb o
theorem keep_bk {Pb : HO → Prop} {b : Addr} {H1 : Hp} (h : ∃ o, H1 b = some o ∧ Pb o) : Keep (Bk Pb b) H1 where
  refl := ⟨fun _ _ _ e => e, h⟩
  trans := fun _ _ p q => ⟨fun a o n e => q.1 a o n (p.1 a o n e), q.2⟩
  put := fun H D o s hD => by
    obtain ⟨o1, e1, _⟩ := h
    refine ⟨fun a u n e => by rw [upd_ne (ne_of_none e hD)]; exact s.1 a u n e, ?_⟩
    rw [upd_ne (ne_of_none e1 hD)]
    exact s.2
  get := fun H H' D o s hD _ e => by
    obtain ⟨o1, e1, _⟩ := h
    exact s.1 D o (ne_of_none e1 hD).symm e
theorem bk_same {Pb : HO → Prop} {b : Addr} {H H' : Hp} (s : Same H H') (h : ∃ o, H b = some o ∧ Pb o) : Bk Pb b H H' := ⟨fun a o _ e => s a o e, let ⟨o, e, p⟩ := h; ⟨o, s b o e, p⟩⟩
theorem sm_put {H H' : Hp} {p : Addr} {o : HO} (s : Same H H') (h : H p = none) : Same H (upd H' p o) := fun b u e => by rw [upd_ne (ne_of_none e h)]; exact s b u e
theorem sm_put' {H H' : Hp} {p : Addr} {o : HO} (s : Same H H') (h : H' p = none) : Same H (upd H' p o) := sm_put s (s.free h)
theorem sm_new {H : Hp} {p : Addr} {o : HO} (h : H p = none) : Same H (upd H p o) := sm_put (Same.refl H) h
theorem sm_seqT {K : PySem.W.Frag} {H H' : Hp} {a : Addr} {xs : List V} (e : Same H H') (h : SqT K H a xs) : SqT K H' a xs :=
  h.elim (fun h => .inl (h.elim (fun h => .inl (e _ _ h)) fun ⟨o, h⟩ => .inr ⟨o, e _ _ h⟩)) fun h => .inr h
theorem bk_seq {Pb : HO → Prop} {K : PySem.W.Frag} {b : Addr} {H H' : Hp} {a : Addr} {xs : List V} (e : Bk Pb b H H') (n : a ≠ b) (h : SqL K H a xs) : SqL K H' a xs := by
  rcases h with (h | ⟨o, h⟩) | h
  · exact .inl (.inl (e.1 _ _ n h))
  · exact .inl (.inr ⟨o, e.1 _ _ n h⟩)
  · exact .inr h
theorem lc_keep {Rel : Hp → Hp → Prop} {J : It} {n : Nat} {G : Hp → Prop} {Y : Nat → Hp → V → Hp → Prop} {H1 : Hp} (kp : Keep Rel H1) (w : Walk J n G Y) {g : TG} {te : TE} {vs : List Nat} {σ : L2.St} {D : Addr} {Qd : Hp → Prop} (hD : H1 D = none) (hn : n < sizeLine)
    (Good : Nat → V → Prop) (hG : ∀ H, Rel H1 H → G H)
    (hs : ∀ i x H H' (R : V → Hp → Prop), i < n → Rel H1 H → Y i H x H' → (∀ y H4, Rel H H4 → Good i y → R y H4) → g x (wipe σ vs) H' fun σ2 H2 => wipe σ2 vs = wipe σ vs ∧ te σ2 H2 R)
    (hd : ∀ ys H, ys.length = n → (∀ (j : Nat) y, ys[j]? = some y → Good j y) → Rel H1 H → H D = some (.lst ys) → Qd H) :
    ∃ W : Nat → Nat → Hp → Prop, (∃ m, W 0 m (upd H1 D (.lst []))) ∧ ∀ i m H, W i m H →
      (J.stop i H ∧ Qd H) ∨ (J.go i H ∧ ∃ Nx : Hp → Prop, (∀ H', Nx H' → ∃ m', m' < m ∧ W (i + 1) m' H') ∧ ∀ x H', J.yld i H x H' → g x (wipe σ vs) H' fun σ2 H2 => wipe σ2 vs = wipe σ vs ∧ tYes σ2 H2 fun b H3 =>
        if b = true then te σ2 H3 fun y H4 => ∃ acc, H4 D = some (.lst acc) ∧ acc.length < sizeLine ∧ Nx (upd H4 D (.lst (acc ++ [y]))) else Nx H3) := by
  refine lc_it w (fun i H => ∃ acc, acc.length = i ∧ H D = some (.lst acc) ∧ Rel H1 H ∧ ∀ (j : Nat) y, acc[j]? = some y → Good j y) ⟨[], rfl, upd_same, kp.put _ _ _ kp.refl hD, fun j y e => by simp at e⟩ (fun i H _ ⟨_, _, _, r, _⟩ => hG H r) (fun i x H H' hi ⟨acc, hl, hDa, r, hg⟩ hy => ?_) (fun H ⟨acc, hl, hDa, r, hg⟩ => hd acc H hl hg r hDa)
  refine hs i x H H' _ hi r hy fun y H4 r4 gy => ?_
  refine ⟨acc, kp.get _ _ _ _ r4 hD r hDa, by omega, acc ++ [y], by simp [hl], upd_same, kp.put _ _ _ (kp.trans _ _ r r4) hD, fun j z e => ?_⟩
  rcases Nat.lt_or_ge j acc.length with h | h
  · rw [List.getElem?_append_left h] at e
    exact hg j z e
  · rw [List.getElem?_append_right h] at e
    have hj : j - acc.length = 0 := by
      rcases Nat.lt_or_ge (j - acc.length) 1 with z | z
      · omega
      · rw [List.getElem?_eq_none (by simpa using z)] at e; cases e
    rw [hj] at e
    have : y = z := Option.some.inj e
    subst this
    have : j = i := by omega
    subst this
    exact gy
theorem list_of {α : Type} {ys : List α} {n : Nat} {f : Nat → α} (hl : ys.length = n) (h : ∀ (j : Nat) y, ys[j]? = some y → y = f j) : ys = (List.range n).map f := by
  apply List.ext_getElem
  · simp [hl]
  · intro i h1 h2
    rw [List.getElem_map, List.getElem_range]
    exact h i _ (List.getElem?_eq_getElem h1)
theorem list_map {α β : Type} {ys : List β} {xs : List α} {f : α → β} (hl : ys.length = xs.length) (h : ∀ (j : Nat) y x, ys[j]? = some y → xs[j]? = some x → y = f x) : ys = xs.map f := by
  apply List.ext_getElem
  · simp [hl]
  · intro i h1 h2
    rw [List.getElem_map]
    exact h i _ _ (List.getElem?_eq_getElem h1) (List.getElem?_eq_getElem (by omega))
end LX
namespace LX
open PySem PySem.Spec PyProof.Rows L2 C8 SX
section
variable {X : Cx}
theorem ixl (K : PySem.W.Frag) (h : X.K = K := by rfl) : IxR X (rIxL K) := by subst h; exact ix_list
theorem ixt (K : PySem.W.Frag) (h : X.K = K := by rfl) : IxR X (rIxT K) := by subst h; exact ix_tup
theorem lenK (K : PySem.W.Frag) (h : X.K = K := by rfl) : CallR X (.builtin "len") (fun xs H Q => ∃ p ys, xs = [.ref p] ∧ (SqL K H p ys ∨ SqT K H p ys) ∧ Q (.int ys.length) H) := by subst h; exact call_len_seq
theorem listK (K : PySem.W.Frag) (h : X.K = K := by rfl) : CallR X (.type "list") (fun xs H Q => ∃ p ys, xs = [.ref p] ∧ (SqL K H p ys ∨ SqT K H p ys) ∧ ∀ l, H l = none → Q (.ref l) (upd H l (.lst ys))) := by subst h; exact call_list_of
theorem tupleK (K : PySem.W.Frag) (h : X.K = K := by rfl) : CallR X (.type "tuple") (fun xs H Q => ∃ p ys, xs = [.ref p] ∧ ((SqL K H p ys ∧ ∀ l, H l = none → Q (.ref l) (upd H l (.tup ys))) ∨ (SqT K H p ys ∧ Q (.ref p) H))) := by subst h; exact call_tuple_of
theorem isiK (K : PySem.W.Frag) (h : X.K = K := by rfl) : CallR X (.builtin "isinstance") (rIsi K) := by subst h; exact call_isi
theorem isiTK (K : PySem.W.Frag) (h : X.K = K := by rfl) : CallR X (.builtin "isinstance") (rIsiT K) := by subst h; exact call_isiT
theorem fldK (K : PySem.W.Frag) {o : Expr} {f : Str} {pos : Pos} {ta : TE} (ha : PE X o ta) (hb : attributeBase o f X.env (eval o X.env) = eval o X.env) (h : X.K = K := by rfl) : PE X (.Attribute o f pos) (tFld K ta f) := by subst h; exact pe_fld ha hb
theorem tupK (K : PySem.W.Frag) {es : List Expr} {k : Nat} {pos : Pos} {t : TGs} (n : Nat) (h : PGs X es t) (hc : X.calm = true := by rfl)
    (hn : (assignEach es X.env).length = n := by rfl) (hst : (assignEach es X.env).findIdx? (·.1) = none := by rfl) (hK : X.K = K := by rfl) : PG X (.Tuple es k pos) (gTup K n t) := by subst hK; exact pg_tup hc h hn hst
theorem unlK (K : PySem.W.Frag) {es : List Expr} {k : Nat} {pos : Pos} {t : TGs} (n : Nat) (h : PGs X es t) (hc : X.calm = true := by rfl)
    (hn : (assignEach es X.env).length = n := by rfl) (hst : (assignEach es X.env).findIdx? (·.1) = none := by rfl) (hK : X.K = K := by rfl) : PG X (.Tuple es k pos) (gUnl K n t) := by subst hK; exact pg_unl hc h hn hst
end
def Sr.is (K : PySem.W.Frag) (H : Hp) (xs : List V) : Sr → Prop
  | .txt x => xs = x.cps.toList.map fun c => V.str ⟨#[c]⟩
  | .lst a => SqL K H a xs
  | .tup a => SqT K H a xs
theorem Sr.is_there {K : PySem.W.Frag} {H : Hp} {xs : List V} : ∀ {S : Sr}, S.is K H xs → S.there K H
  | .txt _, _ => trivial
  | .lst _, h => ⟨xs, h⟩
  | .tup _, h => ⟨xs, h⟩
theorem Sr.is_has {K : PySem.W.Frag} {H : Hp} {xs : List V} {i : Nat} (hi : i < xs.length) : ∀ {S : Sr}, S.is K H xs → S.has K i H
  | .txt x, h => by
    have h' : xs = x.cps.toList.map fun c => V.str ⟨#[c]⟩ := h
    rw [h', List.length_map] at hi
    show i < x.cps.size; simpa using hi
  | .lst _, h => ⟨xs, h, hi⟩
  | .tup _, h => ⟨xs, h, hi⟩
theorem Sr.is_upto {K : PySem.W.Frag} {H : Hp} {xs : List V} {i : Nat} (hi : i ≤ xs.length) : ∀ {S : Sr}, S.is K H xs → S.upto K i H
  | .txt x, h => by
    have h' : xs = x.cps.toList.map fun c => V.str ⟨#[c]⟩ := h
    rw [h', List.length_map] at hi
    show i ≤ x.cps.size; simpa using hi
  | .lst _, h => ⟨xs, h, hi⟩
  | .tup _, h => ⟨xs, h, hi⟩
theorem Sr.is_ends {K : PySem.W.Frag} {H : Hp} {xs : List V} {i : Nat} (hi : i = xs.length) : ∀ {S : Sr}, S.is K H xs → S.ends K i H
  | .txt x, h => by
    have h' : xs = x.cps.toList.map fun c => V.str ⟨#[c]⟩ := h
    rw [h', List.length_map] at hi
    show i = x.cps.size; simpa using hi
  | .lst _, h => ⟨xs, h, hi⟩
  | .tup _, h => ⟨xs, h, hi⟩
theorem Sr.is_val {K : PySem.W.Frag} {H : Hp} {xs : List V} {i : Nat} {v : V} : ∀ {S : Sr}, S.is K H xs → S.val K i H v → xs[i]? = some v
  | .txt x, h, ⟨c, e, ev⟩ => by
    have h' : xs = x.cps.toList.map fun c => V.str ⟨#[c]⟩ := h
    have e' : x.cps.toList[i]? = some c := by simpa using e
    rw [h', List.getElem?_map, e', ev]; rfl
  | .lst _, h, e => e xs h
  | .tup _, h, e => e xs h
theorem walk_zipX {K : PySem.W.Frag} {S1 S2 : Sr} {xs ys : List V} : Walk (ItzX K S1 S2) (min xs.length ys.length) (fun H => S1.is K H xs ∧ S2.is K H ys) (YPair (fun i => xs[i]?) (fun i => ys[i]?)) := by
  refine ⟨fun i _ hi q => ⟨Sr.is_has (by omega) q.1, Sr.is_has (by omega) q.2⟩, fun _ q => ⟨Sr.is_upto (by omega) q.1, Sr.is_upto (by omega) q.2, ?_⟩, fun i H v H' _ q y => ?_⟩
  · rcases Nat.le_total xs.length ys.length with h | h
    · exact .inl (Sr.is_ends (by omega) q.1)
    · exact .inr (Sr.is_ends (by omega) q.2)
  · obtain ⟨T, x, z, h1, h2, h3, h4, h5⟩ := y
    exact ⟨T, x, z, h1, h2, h3, Sr.is_val q.1 h4, Sr.is_val q.2 h5⟩
end LX
namespace LX
open PySem PySem.Spec PyProof.Rows L2 C8 SX
theorem lc_keepH {Rel : Hp → Hp → Prop} {J : It} {n : Nat} {G : Hp → Prop} {Y : Nat → Hp → V → Hp → Prop} {H1 : Hp} (kp : Keep Rel H1) (w : Walk J n G Y) {g : TG} {te : TE} {vs : List Nat} {σ : L2.St} {D : Addr} {Qd : Hp → Prop} (hD : H1 D = none) (hn : n < sizeLine)
    (Good : Nat → V → Hp → Prop) (hG : ∀ H, Rel H1 H → G H)
    (st : ∀ i y H H', Rel H1 H → Rel H H' → Good i y H → Good i y H') (pt : ∀ i y H acc o, Rel H1 H → H D = some (.lst acc) → Good i y H → Good i y (upd H D o))
    (hs : ∀ i x H H' acc (R : V → Hp → Prop), i < n → Rel H1 H → H D = some (.lst acc) → Y i H x H' → (∀ y H4, Rel H H4 → Good i y H4 → R y H4) → g x (wipe σ vs) H' fun σ2 H2 => wipe σ2 vs = wipe σ vs ∧ te σ2 H2 R)
    (hd : ∀ ys H, ys.length = n → (∀ (j : Nat) y, ys[j]? = some y → Good j y H) → Rel H1 H → H D = some (.lst ys) → Qd H) :
    ∃ W : Nat → Nat → Hp → Prop, (∃ m, W 0 m (upd H1 D (.lst []))) ∧ ∀ i m H, W i m H →
      (J.stop i H ∧ Qd H) ∨ (J.go i H ∧ ∃ Nx : Hp → Prop, (∀ H', Nx H' → ∃ m', m' < m ∧ W (i + 1) m' H') ∧ ∀ x H', J.yld i H x H' → g x (wipe σ vs) H' fun σ2 H2 => wipe σ2 vs = wipe σ vs ∧ tYes σ2 H2 fun b H3 =>
        if b = true then te σ2 H3 fun y H4 => ∃ acc, H4 D = some (.lst acc) ∧ acc.length < sizeLine ∧ Nx (upd H4 D (.lst (acc ++ [y]))) else Nx H3) := by
  refine lc_it w (fun i H => ∃ acc, acc.length = i ∧ H D = some (.lst acc) ∧ Rel H1 H ∧ ∀ (j : Nat) y, acc[j]? = some y → Good j y H) ⟨[], rfl, upd_same, kp.put _ _ _ kp.refl hD, fun j y e => by simp at e⟩ (fun i H _ ⟨_, _, _, r, _⟩ => hG H r) (fun i x H H' hi ⟨acc, hl, hDa, r, hg⟩ hy => ?_) (fun H ⟨acc, hl, hDa, r, hg⟩ => hd acc H hl hg r hDa)
  refine hs i x H H' acc _ hi r hDa hy fun y H4 r4 gy => ?_
  have hD4 := kp.get _ _ _ _ r4 hD r hDa
  have r5 := kp.trans _ _ r r4
  refine ⟨acc, hD4, by omega, acc ++ [y], by simp [hl], upd_same, kp.put _ _ _ r5 hD, fun j z e => ?_⟩
  rcases Nat.lt_or_ge j acc.length with h | h
  · rw [List.getElem?_append_left h] at e
    exact pt _ _ _ _ _ r5 hD4 (st _ _ _ _ r r4 (hg j z e))
  · rw [List.getElem?_append_right h] at e
    have hj : j - acc.length = 0 := by
      rcases Nat.lt_or_ge (j - acc.length) 1 with z | z
      · omega
      · rw [List.getElem?_eq_none (by simpa using z)] at e; cases e
    rw [hj] at e
    have : y = z := Option.some.inj e
    subst this
    have : j = i := by omega
    subst this
    exact pt _ _ _ _ _ r5 hD4 gy
end LX
namespace LX
open PySem PySem.Spec PyProof.Rows L2 C8 SX
def bx (x y z : Int) : HO := .lst [.int x, .int y, .int z]
def isBx (o : HO) : Prop := ∃ x y z : Int, o = bx x y z
def BoxAt (b : Addr) (H : Hp) : Prop := ∃ o, H b = some o ∧ isBx o
abbrev Bx (b : Addr) : Hp → Hp → Prop := Bk isBx b
theorem Bx.box {b : Addr} {H H' : Hp} (h : Bx b H H') : BoxAt b H' := h.2
theorem BoxAt.of {b : Addr} {H : Hp} {x y z : Int} (h : H b = some (bx x y z)) : BoxAt b H := ⟨_, h, _, _, _, rfl⟩
theorem Bx.mk {b : Addr} {H : Hp} (x y z : Int) : Bx b H (upd H b (bx x y z)) := ⟨fun a o n e => by rw [upd_ne n]; exact e, _, upd_same, _, _, _, rfl⟩
theorem Bx.trans {b : Addr} {H H1 H2 : Hp} (p : Bx b H H1) (q : Bx b H1 H2) : Bx b H H2 := ⟨fun a o n e => q.1 a o n (p.1 a o n e), q.2⟩
theorem box_ne {b p : Addr} {H : Hp} (h : BoxAt b H) (n : H p = none) : p ≠ b := by
  obtain ⟨o, e, _⟩ := h
  exact (ne_of_none e n).symm
theorem Bx.put {b p : Addr} {H H1 : Hp} {o : HO} (s : Bx b H H1) (h : BoxAt b H) (n : H p = none) : Bx b H (upd H1 p o) := (keep_bk h).put _ _ _ s n
theorem Bx.free {b p : Addr} {H H1 : Hp} (s : Bx b H H1) (n : H1 p = none) : H p = none := by
  cases q : H p with
  | none => rfl
  | some o =>
    by_cases e : p = b
    · subst e; obtain ⟨u, z, _⟩ := s.2; rw [n] at z; cases z
    · rw [s.1 p o e q] at n; cases n
theorem nil1 {σ : L2.St} {H : Hp} {R : List V → Hp → Prop} (h : R [] H) : tNil σ H R := h
theorem consc {v : V} {σ : L2.St} {H : Hp} {R : List V → Hp → Prop} (h : R [v] H) : tCons (tC v) tNil σ H R := h
theorem tc1 {v : V} {σ : L2.St} {H : Hp} {Q : VK} (h : Q v H) : tC v σ H Q := h
theorem ne_str {l r : Str} {H : Hp} {R : VK} (e : l = r) (h : R (.bl false) H) : rNe (.str l) (.str r) H R := ⟨rfl, by rw [decide_eq_true (by rw [e])]; exact h⟩
theorem bl_f {p : Bool → Prop} (h : p false) : ∃ k, V.bl false = V.bl k ∧ p k := ⟨false, rfl, h⟩
theorem if_f {p q : Prop} (h : q) : if false = true then p else q := h
theorem iteB {c : Bool} {A B : Prop} (hc : c = true) (h : A) : if c = true then A else B := by rw [if_pos hc]; exact h
theorem iteN {c : Bool} {A B : Prop} (hc : c = false) (h : B) : if c = true then A else B := by rw [hc]; exact iteF h
theorem perm_at {α : Type} : ∀ {xs : List α} {i : Nat} (h : i < xs.length), (xs[i] :: xs.eraseIdx i).Perm xs
  | x :: xs, 0, _ => List.Perm.refl _
  | x :: xs, i + 1, h => (List.Perm.swap x _ _).trans ((perm_at (xs := xs) (i := i) (Nat.lt_of_succ_lt_succ h)).cons x)
theorem eraseIdx_map' {α β : Type} (f : α → β) : ∀ (xs : List α) (i : Nat), (xs.map f).eraseIdx i = (xs.eraseIdx i).map f
  | [], i => by cases i <;> rfl
  | x :: xs, 0 => rfl
  | x :: xs, i + 1 => congrArg (f x :: ·) (eraseIdx_map' f xs i)
theorem perm_map_inv {α β : Type} {f : α → β} {g : β → α} (hg : ∀ a, g (f a) = a) {ys : List β} {xs : List α} (h : ys.Perm (xs.map f)) : ∃ zs : List α, ys = zs.map f ∧ zs.Perm xs := by
  refine ⟨ys.map g, ?_, ?_⟩
  · rw [List.map_map]
    have : ys.map (f ∘ g) = ys.map id := List.map_congr_left fun y hy => by
      obtain ⟨a, _, rfl⟩ := List.mem_map.mp (h.subset hy)
      show f (g (f a)) = f a
      rw [hg]
    rw [this, List.map_id]
  · have e := h.map g
    rw [List.map_map] at e
    have : xs.map (g ∘ f) = xs.map id := List.map_congr_left fun a _ => hg a
    rw [this, List.map_id] at e
    exact e
theorem sums_singles : ∀ l : List Nat, ((l.map fun c => S [c]).map (·.length)).sum = l.length
  | [] => rfl
  | c :: l => by simp only [List.map_cons, List.sum_cons, sums_singles l, List.length_cons]; rw [S_len]; simp; omega
theorem join_nil : ∀ ys : List (List Nat), TL.joinL [] ys = ys.flatten
  | [] => rfl
  | [y] => by simp [TL.joinL]
  | y :: z :: ys => by
    have ih := join_nil (z :: ys)
    simp [TL.joinL] at ih ⊢
    exact ih
theorem join_txs (ys : List (List Nat)) : Txt.join (S []) (ys.map S) = S ys.flatten := by rw [join_S, join_nil]
theorem flat_singles : ∀ l : List Nat, (l.map fun c => [c]).flatten = l
  | [] => rfl
  | c :: l => by rw [List.map_cons, List.flatten_cons, flat_singles l]; rfl
theorem join_singles (l : List Nat) : Txt.join (S []) (l.map fun c => S [c]) = S l := by
  have e1 : (l.map fun c => S [c]) = (l.map fun c => [c]).map S := by rw [List.map_map]; rfl
  rw [e1, join_txs, flat_singles]
theorem rising_singles : ∀ (ds : List Nat) (c : Nat), risingS (S [c]) (ds.map fun d => S [d]) = true → (∀ d ∈ ds, c ≤ d) ∧ ds.Pairwise (· ≤ ·)
  | [], _, _ => ⟨fun _ h => (nomatch h), .nil⟩
  | d :: ds, c, h => by
    have h' : (!ltCps [d] [c] && risingS (S [d]) (ds.map fun d => S [d])) = true := h
    rw [Bool.and_eq_true, Bool.not_eq_true'] at h'
    obtain ⟨h1, h2⟩ := h'
    obtain ⟨i1, i2⟩ := rising_singles ds d h2
    have hcd : c ≤ d := by
      rcases Nat.lt_or_ge d c with q | q
      · simp [ltCps, q] at h1
      · exact q
    refine ⟨fun e he => ?_, List.pairwise_cons.mpr ⟨i1, i2⟩⟩
    rcases List.mem_cons.mp he with rfl | he
    · exact hcd
    · exact Nat.le_trans hcd (i1 e he)
theorem sorted_singles {ds : List Nat} (h : sortedS (ds.map fun d => S [d]) = true) : ds.Pairwise (· ≤ ·) := by
  cases ds with
  | nil => exact .nil
  | cons d ds =>
    obtain ⟨i1, i2⟩ := rising_singles ds d h
    exact List.pairwise_cons.mpr ⟨i1, i2⟩
theorem strict_of {ds : List Nat} (h : ds.Pairwise (· ≤ ·)) (n : ds.Nodup) : ds.Pairwise (· < ·) :=
  (h.and n).imp fun ⟨a, b⟩ => Nat.lt_of_le_of_ne a b
open Classical in
theorem fun_of {α γ : Type} [DecidableEq α] [Inhabited γ] {sg : List α} (n : sg.Nodup) {P : Nat → α → γ → Prop} (h : ∀ j c, sg[j]? = some c → ∃ v, P j c v) : ∃ g : α → γ, ∀ j c, sg[j]? = some c → P j c (g c) := by
  refine ⟨fun c => if q : ∃ v, P (sg.idxOf c) c v then q.choose else default, fun j c e => ?_⟩
  have hj : j = sg.idxOf c := by
    obtain ⟨hl, e2⟩ := List.getElem?_eq_some_iff.mp e
    subst e2
    exact (n.idxOf_getElem j hl).symm
  have q : ∃ v, P (sg.idxOf c) c v := hj ▸ h j c e
  show P j c (dite _ _ _)
  rw [dif_pos q, hj]
  exact q.choose_spec
theorem paired_map {α β γ : Type} {R : α → β → Prop} {f : γ → α} {g : γ → β} : ∀ {l : List γ}, (∀ c ∈ l, R (f c) (g c)) → Paired R (l.map f) (l.map g)
  | [], _ => .nil
  | c :: l, h => .cons (h c List.mem_cons_self) (paired_map fun d hd => h d (List.mem_cons_of_mem _ hd))
abbrev tk (l : List Nat) : Key := Sum.inr (S l)
theorem tk_inj {l r : List Nat} (h : tk l = tk r) : l = r := by
  have e : S l = S r := Sum.inr.inj h
  have : (S l).cps.toList = (S r).cps.toList := by rw [e]
  simpa [S] using this
theorem valV_none {kvs : List (Key × V)} {k : Key} (h : ∀ p ∈ kvs, p.1 ≠ k) : valV kvs k = none := by
  unfold valV
  rw [List.find?_eq_none.mpr fun p hp => by simpa using h p hp]
  rfl
theorem valV_map' {α : Type} [DecidableEq α] {key : α → Key} (inj : ∀ a b, key a = key b → a = b) {f : α → V} : ∀ {l : List α} {c : α}, c ∈ l → valV (l.map fun a => (key a, f a)) (key c) = some (f c)
  | a :: l, c, h => by
    by_cases e : a = c
    · subst e; exact valV_pos rfl
    · rw [List.map_cons, valV_neg (fun q => e (inj _ _ q))]
      refine valV_map' inj ?_
      rcases List.mem_cons.mp h with q | q
      · exact absurd q.symm e
      · exact q
theorem merge_new : ∀ {more kvs : List (Key × V)}, (∀ p ∈ more, ∀ q ∈ kvs, q.1 ≠ p.1) → (more.map (·.1)).Nodup → mergeK kvs more = kvs ++ more
  | [], kvs, _, _ => by rw [List.append_nil]; rfl
  | p :: more, kvs, h, n => by
    have e : putK kvs p.1 p.2 = kvs ++ [p] := putK_new _ (valV_none fun q hq => h p List.mem_cons_self q hq)
    show mergeK (putK kvs p.1 p.2) more = _
    rw [List.map_cons, List.nodup_cons] at n
    rw [e, merge_new (fun r hr q hq => ?_) n.2, List.append_assoc]
    · rfl
    · rcases List.mem_append.mp hq with hq | hq
      · exact h r (List.mem_cons_of_mem _ hr) q hq
      · rw [List.mem_singleton] at hq
        subst hq
        exact fun e => n.1 (e ▸ List.mem_map_of_mem hr)
theorem merge_nil {more : List (Key × V)} (n : (more.map (·.1)).Nodup) : mergeK [] more = more := by
  rw [merge_new (fun _ _ q h => absurd h List.not_mem_nil) n]; rfl
theorem nodup_keys {α : Type} {key : α → Key} (inj : ∀ a b, key a = key b → a = b) {f : α → V} {l : List α} (n : l.Nodup) : ((l.map fun a => (key a, f a)).map (·.1)).Nodup := by
  rw [List.map_map]
  exact List.pairwise_map.mpr (n.imp fun h e => h (inj _ _ e))
theorem cut_to (ys : List (List Nat)) (k : Nat) : cutV (txs ys) none (some (k : Int)) = txs (ys.take k) := by
  unfold cutV
  rw [HT.sIx_none, HT.sIx_nat, List.drop_zero, Nat.sub_zero, txs_len]
  unfold txs
  rw [← List.map_take]
  rcases Nat.le_total k ys.length with h | h
  · rw [Nat.min_eq_left h]
  · rw [Nat.min_eq_right h, List.take_length, List.take_of_length_le h]
theorem tup_ne_box {H : Hp} {t b : Addr} {xs : List V} (hb : BoxAt b H) (ht : H t = some (.tup xs)) : t ≠ b := by
  obtain ⟨o, e, x, y, z, rfl⟩ := hb
  exact ne_of ht e (by intro h; cases h)
theorem dict_ne_box {H : Hp} {t b : Addr} {xs : List (Key × V)} (hb : BoxAt b H) (ht : H t = some (.dK xs)) : t ≠ b := by
  obtain ⟨o, e, x, y, z, rfl⟩ := hb
  exact ne_of ht e (by intro h; cases h)
theorem not_in_take {α : Type} [DecidableEq α] {ms : List α} {i : Nat} {m : α} (n : ms.Nodup) (h : ms[i]? = some m) : m ∉ ms.take i := fun hm => by
  obtain ⟨j, hj⟩ := List.getElem?_of_mem hm
  have hji : j < i := by
    have := (List.getElem?_eq_some_iff.mp hj).1
    rw [List.length_take] at this; omega
  rw [List.getElem?_take_of_lt hji] at hj
  have h1 := (List.getElem?_eq_some_iff.mp h)
  have h2 := (List.getElem?_eq_some_iff.mp hj)
  obtain ⟨a1, a2⟩ := h1
  obtain ⟨b1, b2⟩ := h2
  have e1 : ms.idxOf m = i := by subst a2; exact n.idxOf_getElem i a1
  have e2 : ms.idxOf m = j := by subst b2; exact n.idxOf_getElem j b1
  omega
theorem take_more {α : Type} {ms : List α} {i : Nat} {m : α} (h : ms[i]? = some m) : ms.take (i + 1) = ms.take i ++ [m] := by
  rw [List.take_succ, h]; rfl
theorem sz {n m : Nat} (h : n ≤ m) (hm : m ≤ 1000) : n ≤ sizeLine := Nat.le_trans (Nat.le_trans h hm) (show 1000 ≤ sizeLine by decide)
end LX
set_option maxHeartbeats 2000000
namespace LX
open PySem PySem.Spec PyProof.Rows L2 C8 SX
structure FnG (P : Program) (w : World) (K : PySem.W.Frag) (mg : Str → Option Value) (base : Heap) (k : Nat) (f : Addr) (fd : FuncData) (ps : List Str) (sp : Sp) : Prop where
  many : ∀ vs H Q E, sp vs H Q E → vs.length = ps.length
  goes : ∀ (A : Around) (ou : List Env) (t : Shared) (H : Hp) (gs : Args) (us : List Value) (vs : List V) (Q : VK) (E : XK), A.guards = some [] → Room k A → Env0 P w K mg base A ou t H → BindsTo t fd gs (ps.zip us) → Vals vs us →
    sp vs H Q E → codeAny (model P w) A (.call (.ref f) gs) (CR C8.CX0 ou P w H t Q E) t
theorem FnG.of {P : Program} {w : World} {K : PySem.W.Frag} {mg : Str → Option Value} {base : Heap} {k : Nat} {f : Addr} {fd : FuncData} {ps : List Str} {sp : Sp} (F : FnOk P w K mg base C8.CX0 k f fd ps sp) : FnG P w K mg base k f fd ps sp :=
  ⟨F.len, fun A ou t H gs us vs Q E _ => F.run A ou t H gs us vs Q E⟩
theorem fnG0 {P : Program} {w : World} {K : PySem.W.Frag} {mg : Str → Option Value} {base : Heap} {x ql : Str} {st : Stmt} {f : Addr} {fd : FuncData} {N ps : List Str} {k : Nat} {sp : Sp} (F : C8.Fun K x ql st f fd) (Sc : FnScope N ps (C8.fnScope st))
    (many : ∀ vs H Q E, sp vs H Q E → vs.length = ps.length)
    (h : ∀ (cd : Value) (A : Around) (ou : List Env) (t : Shared) (H : Hp) (vs : List V) (Q : VK) (E : XK), A.guards = some [] → Room k (A.deeper (envOfC ql (C8.fnScope st) t.heap.objs.size f cd)) → sp vs H Q E →
      ∃ r, PSs (cxOf C8.CX0 P w K mg base N ql (C8.fnScope st) f cd A ou t H E).nox (C8.fnBody st) r ∧ r { nx := fun _ H' => Q .non H', rt := Q } (L2.start N vs) H) : FnG P w K mg base (k + 1) f fd ps sp := by
  obtain ⟨oc, od, dV, kV, doc, pm, an, cd, ct, osl, rfl, at_, code⟩ := F.ex
  constructor
  · exact many
  intro A ou t H gs us vs Q E gd room e0 bound rel want
  have count := many _ _ _ _ want
  have old : ∀ (b : Addr) (o : Obj), base.get? b = some o → t.heap.get? b = some o := fun b o e => (e0.bs b o e).1
  have KT : K.In t.heap := e0.mod.kin.keeps old
  have kinds : ∀ y ∈ ps.zip us, (C8.fnScope st).names.lookup y.1 = some .local ∨ ((C8.fnScope st).names.lookup y.1 = some .cell ∧ ((cellsFrom (t.heap.objs.size + 1) (C8.fnScope st).names []).lookup y.1).isSome = true) := by
    intro y hy
    obtain ⟨n, v⟩ := y
    exact (Sc.par n (List.of_mem_zip hy).1).elim .inl fun q => .inr ⟨q, PySem.W.cellsFrom_some _ _ _ (.inl q)⟩
  refine codeAny_call_function room.depth (KT _ _ at_) rfl Sc.co Sc.gen rfl (PySem.W.codeRec_of KT code) (bound _ _ _ _ ?_)
  refine wpAny_newFunctionEnv_cells Sc.kind kinds fun en en_is t1 inside => ?_
  subst en_is
  refine ⟨(e0.mod.nolimit.keeps old).keeps inside.toInCall.keep, codeAny_func ?_⟩
  obtain ⟨r, body, read⟩ := h cd A ou t H vs Q E gd (room.deeper _) want
  have I0 := inv_start (CX := C8.CX0) (E := E) Sc room.hd e0 count rel inside
  refine wpAny_mono (body.nox.run [] t1 (L2.start N vs) H _ I0 read) (fun fl t' got => ?_) fun _ _ got => got
  cases fl with
  | ret u => exact let ⟨v, _, H', J, rv, q⟩ := got; ⟨v, H', J.os, J.bare, J.base, J.hok, rv, q⟩
  | next => exact let ⟨_, H', J, q⟩ := got; ⟨.non, H', J.os, J.bare, J.base, J.hok, rfl, q⟩
  | brk => exact let ⟨_, _, _, q⟩ := got; False.elim q
  | cont => exact let ⟨_, _, _, q⟩ := got; False.elim q
structure CalG (P : Program) (w : World) (K : PySem.W.Frag) (mg : Str → Option Value) (base : Heap) (k : Nat) (x : Str) (sp : Sp) : Prop where
  ex : ∃ (f : Addr) (fd : FuncData) (ps : List Str), FnG P w K mg base k f fd ps sp ∧ mg x = some (.ref f) ∧ PySem.W.keepIn K (.ref f) = true ∧ Binds K fd ps []
structure MetG (P : Program) (w : World) (K : PySem.W.Frag) (mg : Str → Option Value) (base : Heap) (k : Nat) (C : Addr) (m : Str) (sp : Sp) : Prop where
  ex : ∃ (f : Addr) (fd : FuncData) (ps : List Str), Cls K C ∧ Meth K C m f ∧ FnG P w K mg base k f fd ps sp ∧ Binds K fd ps []
section
variable {X : Cx} {k j : Nat} {f C : Addr} {fd : FuncData} {ps : List Str} {sp : Sp} {x m : Str} {p pos apos : Pos} {e o : Expr} {es : List Expr} {ta : TE} {t : TA}
theorem goesG {pins : List (Addr × Obj)} {σ : L2.St} {H : Hp} {s : Shared} {Q : VK} {us : List Value} {vs : List V} (F : FnG X.prog X.w X.K X.mg X.base k f fd ps sp) (gd : X.A.guards = some []) (room : Room k X.A) (bd : Binds X.K fd ps [])
    (I : Inv X pins σ H s) (rel : Vals vs us) (want : sp (vs ++ []) H Q C8.E0) : wpAny (model X.prog X.w) X.A (call (.ref f) us) (EP X pins σ Q) X.xe s := by
  rw [List.append_nil] at want
  have count : (us ++ []).length = ps.length := by rw [List.append_nil, ← rel.length]; exact F.many _ _ _ _ want
  have bs := bd s us I.kIn count
  rw [List.append_nil] at bs
  refine wpAny_call (codeAny_mono (F.goes X.A X.stack s H ⟨us, []⟩ us vs Q C8.E0 gd room I.env0 bs rel want) fun r t' got => ?_)
  match r, got with
  | .ok (.ret u), got => exact I.after got
theorem pe_cG (c : CalG X.prog X.w X.K X.mg X.base k x sp) (gd : X.A.guards = some []) (room : Room j X.A) (hk : k ≤ j) (hg : Gl X x) (ha : PA X (e :: es) t) (hdb : (x == ("__debug__" : Str)) = false := by decide)
    (he : starEach (e :: es) X.env = (false, eval e X.env) :: starEach es X.env := by rfl) (hpl : (backTo pos (starEach es X.env)).any (·.1) = false := by rfl) : PE X (.Call (.Name x p) (e :: es) [] pos) (tCall sp [] C8.E0 t) := by
  obtain ⟨f, fd, ps, F, named, kept, bd⟩ := c.ex
  constructor
  intro pins s σ H Q I want
  refine wpAny_Call_Name_kw (ld_glob I hg named ?_ hdb)
  refine PySem.W.callWith_K (h₀ := X.base) I.ok.mod.kin kept (thn (ha.run pos pins s σ H _ I want) ?_) he hpl
  rintro us s1 ⟨vs, H1, I1, rel, q⟩
  exact ⟨I1.kIn, goesG F gd (room.mono hk) bd I1 rel q⟩
theorem call_reprG (gd : X.A.guards = some []) (room : Room j X.A) : CallR X (.builtin "repr") (fun xs H Q => ∃ (a : Addr) (d : PyData), xs = [.ref a] ∧ Dp X.K H (.ref a) d ∧ d.showable = true ∧ d.hasDict = false ∧ d.depth ≤ 60 ∧ d.shown.length ≤ sizeLine ∧ Q (.str d.shown) H) := by
  intro pins s σ H xs us Q I rel want
  obtain ⟨a, d, rfl, hd, sh, nd, dep, sz, q⟩ := want
  obtain ⟨u, rfl, ru⟩ := vals1 rel
  obtain rfl : u = Value.ref a := ru
  obtain ⟨as, rd⟩ := Dp.reads I d (.ref a) (.ref a) hd rfl
  have un := room.un
  refine repr_of_reads' rd sh (PyData.noDict_hsm nd) gd (by omega) (fun _ _ z => z) (fun h' u tk kept => ?_) sz
  exact ⟨.str d.shown, H, I.kept kept, ⟨_, rfl⟩, q⟩
end
abbrev Done (s s' : Shared) (r : Result) : Prop := r = .ok (.ret (.bool true)) ∧ OldK s.heap s'.heap ∧ s'.os = s.os ∧ AllBare s'.gens
section
variable {P : Program} {w : World} {K : PySem.W.Frag} {mg mb : Str → Option Value} {k : Nat} {fa a : Addr} {fd : FuncData} {x : Str} {sp : Sp} {s : Shared} {vs : List Value} {ns : List Int}
theorem lawG_at {H : Hp} (KX : K.In s.heap) (hns : s.heap.Ns mainGlobals mg) (hb : s.heap.Ns builtinsNs mb) (hbb : ∀ x : Str, x ≠ "__name__" → mb x = bootBuiltins x) (lim : s.heap.NoLimit) (gens : s.gens = #[])
    (ha : s.heap.get? a = some { cls := .type "list", data := .seq vs.toArray }) (room : Room k callerA) (F : ∀ base : Heap, K.In base → base.Ns mainGlobals mg → FnG P w K mg base k fa fd [x] sp)
    (bd : ∀ (s : Shared) (u : Value), BindsTo s fd ⟨[u], []⟩ [(x, u)]) (only : Only H) (want : sp [.ref a] H (fun v _ => v = .bl true) C8.E0) (ok : HOk P w H s.heap) (at_a : ∀ b, H b ≠ none → b = a) (not_K : H a ≠ none → K.lookup a = none) :
    codeAny (model P w) callerA (.call (.ref fa) ⟨[.ref a], []⟩) (fun r s' => Done s s' r) s := by
  have free : ∀ {b : Addr}, b ≠ a → H b = none := fun {b} hn => by
    cases q : H b with
    | none => rfl
    | some u => exact absurd (at_a b (by rw [q]; simp)) hn
  have dict_free : ∀ {b : Addr} {o : Obj} {es : Array DictEntry} {ep : Nat}, s.heap.get? b = some o → o.data = .dict es ep → H b = none := fun {b o es ep} e d => free fun eq => by
    rw [eq, ha] at e
    cases e
    have d2 : Data.seq vs.toArray _ = Data.dict es ep := d
    cases d2
  have names : ∀ {b : Addr} {m : Str → Option Value}, s.heap.Ns b m → (hidT s.heap H).Ns b m := fun {b m} ⟨o, es, ep, e, d, r⟩ => ⟨o, es, ep, hidT_get e (dict_free e d), d, r⟩
  have hK : K.In (hidT s.heap H) := fun b o e => hidT_get (KX b o e) (by
    by_cases eq : b = a
    · subst eq
      cases q : H b with
      | none => rfl
      | some u => rw [not_K (by rw [q]; simp)] at e; cases e
    · exact free eq)
  have md : Mod K mg (hidT s.heap H) := by
    obtain ⟨mc, c1, c2⟩ := lim
    exact ⟨hK, names hns, ⟨mb, names hb, hbb⟩, mc, names c1, c2⟩
  have e0 : Env0 P w K mg (hidT s.heap H) callerA [] s H := ⟨rfl, md, fun _ _ e => of_hidT e, Nat.le_of_eq (hidT_size _ _), trivial, fun _ hm => absurd hm (List.not_mem_nil), ok, .of_eq gens⟩
  refine codeAny_mono ((F _ hK (names hns)).goes callerA [] s H ⟨[.ref a], []⟩ [.ref a] [.ref a] _ _ rfl room e0 (bd s (.ref a)) (.cons rfl .nil) want) fun r t got => ?_
  match r, got with
  | .ok (.ret u), got =>
    obtain ⟨v, H2, os, bare, un, ok2, rel, is_true⟩ := got
    obtain rfl : v = V.bl true := is_true
    obtain rfl : u = Value.bool true := rel
    refine ⟨rfl, OldK.of_keep fun b o e => ?_, os, bare⟩
    rcases only b with none_ | ⟨ob, xs, frozen⟩
    · exact un.keep b o e none_ (fun z => absurd z List.not_mem_nil) (by simp)
    · obtain ⟨e1, _⟩ := ok b _ frozen
      obtain ⟨e2, _⟩ := ok2 b _ (un.frzs b ob _ frozen)
      rw [e] at e1
      cases e1
      exact e2
theorem lawG_call (KX : K.In s.heap) (hns : s.heap.Ns mainGlobals mg) (hb : s.heap.Ns builtinsNs mb) (hbb : ∀ x : Str, x ≠ "__name__" → mb x = bootBuiltins x) (lim : s.heap.NoLimit) (gens : s.gens = #[])
    (ha : s.heap.get? a = some { cls := .type "list", data := .seq vs.toArray }) (hi : IntsAre vs ns) (hl : ns.length ≤ sizeLine) (room : Room k callerA) (F : ∀ base : Heap, K.In base → base.Ns mainGlobals mg → FnG P w K mg base k fa fd [x] sp)
    (bd : ∀ (s : Shared) (u : Value), BindsTo s fd ⟨[u], []⟩ [(x, u)]) (want : ∀ H : Hp, Only H → SqL K H a (ns.map V.int) → sp [.ref a] H (fun v _ => v = .bl true) C8.E0) :
    codeAny (model P w) callerA (.call (.ref fa) ⟨[.ref a], []⟩) (fun r s' => Done s s' r) s := by
  have rel := vals_ints hi
  cases own : K.lookup a with
  | some o =>
    have e := KX a o own
    rw [ha] at e
    cases e
    have only : Only (fun _ => none : Hp) := fun _ => .inl rfl
    have sq : SqL K (fun _ => none) a (ns.map V.int) := .inr ⟨_, vs.toArray, _, own, rfl, rfl, rfl, by rw [List.size_toArray, hi.length]; exact hl, by simpa using rel⟩
    refine lawG_at KX hns hb hbb lim gens ha room F bd only (want _ only sq) ?_ (fun b z => absurd rfl z) fun z => absurd rfl z
    intro b u z
    have z2 : (none : Option HO) = some u := z
    cases z2
  | none =>
    let one : HO := .frz { cls := .type "list", data := .seq vs.toArray } (.lst (ns.map V.int))
    let H : Hp := fun b => if b = a then some one else none
    have here : H a = some one := if_pos rfl
    have else_ : ∀ {b : Addr}, b ≠ a → H b = none := fun hn => if_neg hn
    have only : Only H := fun b => by
      by_cases e : b = a
      · exact .inr ⟨_, _, by rw [e]; exact here⟩
      · exact .inl (else_ e)
    refine lawG_at KX hns hb hbb lim gens ha room F bd only (want H only (.inl (.inr ⟨_, here⟩))) (fun b u z => ?_) (fun b z => ?_) fun _ => own
    · by_cases e : b = a
      · subst e
        rw [here] at z
        cases z
        exact ⟨ha, by rw [List.length_map]; exact hl, vs, _, rel, ha⟩
      · rw [else_ e] at z
        cases z
    · by_cases e : b = a
      · exact e
      · exact absurd (else_ e) z
end
theorem walkG {l : PySem.W.OpenLaw} {n k : Nat} {q : Program} {loose : List Str} {XP : (Str → Option Value) → Heap → Prop} {YP : World → Heap → Prop} {d : DefRec} {K : Params → PySem.W.Frag} {sp : PySem.W.Frag → Sp} {x : Str} (hn : l.most = some n) (hn2 : n ≤ sizeLine)
    (hdf : d.params.defaults = []) (room : Room k callerA) (hY : ∀ (w : World) (h : Heap), YP w h → (K w.params).In h)
    (F : ∀ (w : World) (mg : Str → Option Value) (fa : Addr) (h : Heap), (K w.params).In h → h.Ns mainGlobals mg → mg d.name = some (.ref fa) →
      ∃ fd : FuncData, (∀ (s : Shared) (u : Value), BindsTo s fd ⟨[u], []⟩ [(x, u)]) ∧ ∀ base : Heap, (K w.params).In base → base.Ns mainGlobals mg → FnG l.prog w (K w.params) mg base k fa fd [x] (sp (K w.params)))
    (want : ∀ (K : PySem.W.Frag) (H : Hp) (a : Addr) (ns : List Int), ns.length ≤ n → Only H → SqL K H a (ns.map V.int) → sp K [.ref a] H (fun v _ => v = .bl true) C8.E0) : PySem.W.WalkO q loose XP YP l.row.toRowW d [] (fun f vs => PySem.call f vs) := by
  refine Att.attach_call hn hdf ?_
  intro w s0 s1 mg mb fa o pm cd doc a vs ns G Y _ _ _ named list_ nums few gens
  have KX := hY w _ Y
  obtain ⟨fd, bd, F1⟩ := F w mg fa _ KX G.T.g named
  exact lawG_call KX G.T.g G.T.b G.T.builtins G.T.nolimit gens list_ nums (Nat.le_trans few hn2) room F1 bd fun H only sq => want _ H a ns few only sq
end LX
set_option maxHeartbeats 2000000
namespace LX
open PySem PySem.Spec PyProof.Rows L2 C8 SX
section
variable {prog : Program} {w : World} {A : Around} {E : Value → Shared → Prop} {s : Shared} {z TI TO i1 i2 : Addr} {fp1 fp2 : List Addr} {n1 n2 i : Nat} {P1 P2 : Nat → Value → Prop} {St1 St2 : Nat → Heap → Prop}
theorem zipD2_item_held {T : Addr} {f : Bool} {oT : Obj} {Q : Value → Shared → Prop} (S : ZipSep2 z TI TO i1 i2 fp1 fp2) (D1 : Draws prog w A i1 fp1 n1 P1 St1) (D2 : Draws prog w A i2 fp2 n2 P2 St2)
    (hz : IsZipHeld s.heap z TI TO T f) (hT : s.heap.get? T = some oT) (hTI : IsTupOf2 s.heap TI (.ref i1) (.ref i2)) (st1 : St1 i s.heap) (st2 : St2 i s.heap) (hlt1 : i < n1) (hlt2 : i < n2)
    (hQ : ∀ x1 x2 h' tk, P1 i x1 → P2 i x2 → IsZipHeld h' z TI TO T true → St1 (i + 1) h' → St2 (i + 1) h' → IsTupOf2 h' s.heap.objs.size x1 x2 → h'.objs.size = s.heap.objs.size + 1 →
      (∀ c o, c ≠ z → c ≠ i1 → c ≠ i2 → s.heap.get? c = some o → h'.get? c = some o) → Q (.ref s.heap.objs.size) { s with heap := h', toks := tk }) :
    wpAny (model prog w) A (Builtin.«zip.__next__» ⟨[.ref z], []⟩) (fun fin s' => ∃ v, fin = .done (.ret v) ∧ Q v s') E s := by
  show wpAny _ _ (field (.ref z) 2 >>= _) _ _ _
  refine wpAny_bind (wpAny_field hz rfl (x := .bool false) rfl ?_)
  show wpAny _ _ (field (.ref z) 3 >>= _) _ _ _
  refine wpAny_bind (wpAny_field hz rfl (x := .ref TI) rfl ?_)
  refine wpAny_bind (wpAny_seqItems hTI rfl ?_)
  show wpAny _ _ (Builtin.SmallTypes.ownedTupleIsFree (.ref z) >>= _) _ _ _
  refine wpAny_bind (wpAny_tupleHeld_zip hz hT fun h₁ hz₁ hs₁ => ?_)
  simp only [Bool.false_eq_true, if_false]
  refine wpAny_bind ?_
  rw [← Array.forIn_toList]
  simp only [List.forIn_cons, List.forIn_nil]
  refine wpAny_bind (wpAny_bind (wpAny_holding ?_))
  show wpAny _ _ (Builtin.SmallTypes.nextOf (.ref i1) >>= _) _ _ _
  refine wpAny_bind (D1.item i _ _ _ hlt1 (D1.over st1 hs₁ S.zf1) fun x1 h₂ tk₁ p1 h1₂ hs₂ => wpAny_pure ?_)
  refine wpAny_pure ?_
  refine wpAny_bind (wpAny_bind (wpAny_holding ?_))
  show wpAny _ _ (Builtin.SmallTypes.nextOf (.ref i2) >>= _) _ _ _
  refine wpAny_bind (D2.item i _ _ _ hlt2 (D2.over (D2.over st2 hs₁ S.zf2) hs₂ S.sep1_2) fun x2 h₃ tk₂ p2 h2₃ hs₃ => wpAny_pure ?_)
  refine wpAny_pure (wpAny_pure ?_)
  show wpAny _ _ (newTuple [x1, x2] >>= _) _ _ _
  refine wpAny_bind (wpAny_newTuple ?_)
  have hsz : h₃.objs.size = s.heap.objs.size := by rw [hs₃.1, hs₂.1, hs₁.1]
  have hz₃ : IsZipHeld h₃ z TI TO T true := hs₃.extBut _ _ S.zi2 (hs₂.extBut _ _ S.zi1 hz₁)
  have hk : ∀ c o, c ≠ z → c ≠ i1 → c ≠ i2 → s.heap.get? c = some o → h₃.get? c = some o := fun c o c1 c2 c3 e => hs₃.extBut _ _ c3 (hs₂.extBut _ _ c2 (hs₁.extBut _ _ c1 e))
  have h1₃ : St1 (i + 1) h₃ := D1.over h1₂ hs₃ S.sep2_1
  refine wpAny_pure ⟨_, rfl, ?_⟩
  show Q (.ref h₃.objs.size) _
  have hp : IsTupOf2 (h₃.push { cls := .type "tuple", data := .seq #[x1, x2] }) h₃.objs.size x1 x2 := Heap.get?_push_size _ rfl
  have hz4 : (h₃.push { cls := .type "tuple", data := .seq #[x1, x2] }).objs.size = h₃.objs.size + 1 := Heap.size_push ..
  rw [hsz] at hp hz4 ⊢
  exact hQ x1 x2 _ tk₂ p1 p2 (Heap.get?_push_of_some _ hz₃) (D1.frame _ _ _ h1₃ fun b _ o e => Heap.get?_push_of_some _ e) (D2.frame _ _ _ h2₃ fun b _ o e => Heap.get?_push_of_some _ e) hp hz4 fun c o c1 c2 c3 e => Heap.get?_push_of_some _ (hk c o c1 c2 c3 e)
theorem zipD2_end_held {T : Addr} {f : Bool} {oT : Obj} {Q : Fin → Shared → Prop} (S : ZipSep2 z TI TO i1 i2 fp1 fp2) (D1 : Draws prog w A i1 fp1 n1 P1 St1) (D2 : Draws prog w A i2 fp2 n1 P2 St2)
    (hz : IsZipHeld s.heap z TI TO T f) (hT : s.heap.get? T = some oT) (hTI : IsTupOf2 s.heap TI (.ref i1) (.ref i2)) (st1 : St1 n1 s.heap)
    (hE : ∀ h' e, (∀ c o, c ≠ z → c ≠ i1 → c ≠ i2 → s.heap.get? c = some o → h'.get? c = some o) → (∃ o, h'.get? e = some o ∧ o.cls = .type "StopIteration") → E (.ref e) { s with heap := h' }) :
    wpAny (model prog w) A (Builtin.«zip.__next__» ⟨[.ref z], []⟩) Q E s := by
  show wpAny _ _ (field (.ref z) 2 >>= _) _ _ _
  refine wpAny_bind (wpAny_field hz rfl (x := .bool false) rfl ?_)
  show wpAny _ _ (field (.ref z) 3 >>= _) _ _ _
  refine wpAny_bind (wpAny_field hz rfl (x := .ref TI) rfl ?_)
  refine wpAny_bind (wpAny_seqItems hTI rfl ?_)
  show wpAny _ _ (Builtin.SmallTypes.ownedTupleIsFree (.ref z) >>= _) _ _ _
  refine wpAny_bind (wpAny_tupleHeld_zip hz hT fun h₁ hz₁ hs₁ => ?_)
  simp only [Bool.false_eq_true, if_false]
  refine wpAny_bind ?_
  rw [← Array.forIn_toList]
  simp only [List.forIn_cons, List.forIn_nil]
  refine wpAny_bind (wpAny_bind (wpAny_holding ?_))
  show wpAny _ _ (Builtin.SmallTypes.nextOf (.ref i1) >>= _) _ _ _
  refine wpAny_bind (D1.done _ _ _ (D1.over st1 hs₁ S.zf1) fun h₂ e hs₂ he => ?_)
  exact hE h₂ e (fun c o c1 c2 _ x => hs₂ _ _ c2 (hs₁.extBut _ _ c1 x)) he
theorem pyNext_zipD2_item_held {T : Addr} {f : Bool} {oT : Obj} {Q : Option Value → Shared → Prop} (S : ZipSep2 z TI TO i1 i2 fp1 fp2) (D1 : Draws prog w A.in1 i1 fp1 n1 P1 St1) (D2 : Draws prog w A.in1 i2 fp2 n2 P2 St2)
    (hz : IsZipHeld s.heap z TI TO T f) (hT : s.heap.get? T = some oT) (hTI : IsTupOf2 s.heap TI (.ref i1) (.ref i2)) (st1 : St1 i s.heap) (st2 : St2 i s.heap) (hlt1 : i < n1) (hlt2 : i < n2)
    (hQ : ∀ x1 x2 h' tk, P1 i x1 → P2 i x2 → IsZipHeld h' z TI TO T true → St1 (i + 1) h' → St2 (i + 1) h' → IsTupOf2 h' s.heap.objs.size x1 x2 → h'.objs.size = s.heap.objs.size + 1 →
      (∀ c o, c ≠ z → c ≠ i1 → c ≠ i2 → s.heap.get? c = some o → h'.get? c = some o) → Q (some (.ref s.heap.objs.size)) { s with heap := h', toks := tk }) :
    wpAny (model prog w) A (pyNext (.ref z)) Q E s := by
  have hTy : s.TypeIs (.ref z) "zip" := ⟨_, hz, rfl⟩
  unfold pyNext
  exact wpAny_bind (wpAny_attempt (wpAny_callSpecial?_slot (name := Str.ofString "__next__") hTy F.slot_zip_next
    (wpAny_call_entry F.slot_zip_next hTy F.entry_zip_next
      (zipD2_item_held S D1 D2 hz hT hTI st1 st2 hlt1 hlt2 fun x1 x2 h' tk y1 y2 a1 a3 a4 a5 a6 a7 => wpAny_pure (hQ x1 x2 h' tk y1 y2 a1 a3 a4 a5 a6 a7)) (F.args_zip_next_1 _))))
theorem pyNext_zipD2_end_held {T : Addr} {f : Bool} {oT : Obj} {Q : Option Value → Shared → Prop} (S : ZipSep2 z TI TO i1 i2 fp1 fp2) (D1 : Draws prog w A.in1 i1 fp1 n1 P1 St1) (D2 : Draws prog w A.in1 i2 fp2 n1 P2 St2)
    (hz : IsZipHeld s.heap z TI TO T f) (hT : s.heap.get? T = some oT) (hTI : IsTupOf2 s.heap TI (.ref i1) (.ref i2)) (st1 : St1 n1 s.heap)
    (hQ : ∀ h', (∀ c o, c ≠ z → c ≠ i1 → c ≠ i2 → s.heap.get? c = some o → h'.get? c = some o) → Q none { s with heap := h' }) : wpAny (model prog w) A (pyNext (.ref z)) Q E s := by
  have hTy : s.TypeIs (.ref z) "zip" := ⟨_, hz, rfl⟩
  unfold pyNext
  refine wpAny_bind (wpAny_attempt (wpAny_callSpecial?_slot (name := Str.ofString "__next__") hTy F.slot_zip_next
    (wpAny_call_entry F.slot_zip_next hTy F.entry_zip_next (zipD2_end_held S D1 D2 hz hT hTI st1 fun h' e hk he => ?_) (F.args_zip_next_1 _))))
  obtain ⟨o, ho, hc⟩ := he
  refine wpAny_bind (wpAny_isInstance (T := "StopIteration") (b := true) ⟨o, ho, hc⟩ isSubtype_stop ?_)
  exact wpAny_pure (hQ _ hk)
theorem pairArg_zipD2 (S : ZipSep2 z TI TO i1 i2 fp1 fp2) (D1 : ∀ A : Around, A.handled = none → Draws prog w A i1 fp1 n1 P1 St1) (D2 : ∀ A : Around, A.handled = none → Draws prog w A i2 fp2 n1 P2 St2) :
    PairArg prog w "zip" z (z :: TI :: TO :: (fp1 ++ fp2)) [z, TO, i1, i2] n1 (fun i k v => P1 i k ∧ P2 i v)
      (fun h => IsZip h z TI TO .none ∧ IsTupOf2 h TI (.ref i1) (.ref i2) ∧ (∃ a b, IsTupOf2 h TO a b) ∧ St1 0 h ∧ St2 0 h ∧ ∀ b ∈ fp1 ++ fp2, ∃ o, h.get? b = some o) where
  type := fun s ok => ⟨_, ok.1, rfl⟩
  notDict := by decide
  keep := fun h h' ok hk => by
    obtain ⟨hz, hTI, ⟨a, b, hTO⟩, h1, h2, ex⟩ := ok
    exact ⟨hk _ _ hz, hk _ _ hTI, ⟨a, b, hk _ _ hTO⟩, (D1 callerA rfl).frame _ _ _ h1 fun b _ o e => hk b o e, (D2 callerA rfl).frame _ _ _ h2 fun b _ o e => hk b o e, fun b hb => let ⟨o, e⟩ := ex b hb; ⟨o, hk _ _ e⟩⟩
  there := fun h ok b hb => by
    obtain ⟨hz, hTI, ⟨a, c, hTO⟩, _, _, ex⟩ := ok
    rcases List.mem_cons.mp hb with rfl | hb
    · exact ⟨_, hz⟩
    rcases List.mem_cons.mp hb with rfl | hb
    · exact ⟨_, hTI⟩
    rcases List.mem_cons.mp hb with rfl | hb
    · exact ⟨_, hTO⟩
    exact ex b hb
  sub := fun b hb => by
    have e : b = z ∨ b = TO ∨ b = i1 ∨ b = i2 := by simpa using hb
    rcases e with rfl | rfl | rfl | rfl
    · simp
    · simp
    · have := S.mem1; simp [this]
    · have := S.mem2; simp [this]
  noKeys := fun A s Q E hA ok h => getAttrOr_miss_zip ok.1 rfl rfl rfl zip_no_keys (by decide +kernel) hA h
  iter := fun A s d Q E hA ok hd hdf h => by
    obtain ⟨hz, hTI, ⟨a, b, hTO⟩, h1, h2, _⟩ := ok
    have dz : d ≠ z := fun e => hdf (by simp [e])
    have dTI : d ≠ TI := fun e => hdf (by simp [e])
    have dTO : d ≠ TO := fun e => hdf (by simp [e])
    have df1 : ∀ b ∈ fp1, b ≠ d := fun b hb e => hdf (by subst e; simp [hb])
    have df2 : ∀ b ∈ fp2, b ≠ d := fun b hb e => hdf (by subst e; simp [hb])
    have dI1 := (df1 _ S.mem1).symm
    have dI2 := (df2 _ S.mem2).symm
    refine wpAny_pyIter_zip hz (h z [z, TO, i1, i2] (fun i h => IsTupOf2 h TI (.ref i1) (.ref i2) ∧ St1 i h ∧ St2 i h ∧
      ((IsZip h z TI TO .none ∧ ∃ a b, IsTupOf2 h TO a b) ∨ ∃ T f oT, IsZipHeld h z TI TO T f ∧ h.get? T = some oT ∧ T ≠ z ∧ T ≠ i1 ∧ T ≠ i2 ∧ T ≠ d)) s.heap s.toks ?_
      ⟨hTI, h1, h2, .inl ⟨hz, a, b, hTO⟩⟩ (fun _ _ e => e) fun b hb => .inl hb)
    exact {
      off := fun hm => by
        have e : d = z ∨ d = TO ∨ d = i1 ∨ d = i2 := by simpa using hm
        rcases e with e | e | e | e
        · exact dz e
        · exact dTO e
        · exact dI1 e
        · exact dI2 e
      frame := fun i h₁ h₂ st hk => by
        obtain ⟨hTI, h1, h2, hz⟩ := st
        refine ⟨hk _ _ (Ne.symm dTI) hTI, (D1 A hA).frame _ _ _ h1 fun b hb o e => hk b o (df1 b hb) e, (D2 A hA).frame _ _ _ h2 fun b hb o e => hk b o (df2 b hb) e, ?_⟩
        rcases hz with ⟨hz, a, b, hTO⟩ | ⟨T, f, oT, hz, hT, r1, r2, r3, r4⟩
        · exact .inl ⟨hk _ _ (Ne.symm dz) hz, a, b, hk _ _ (Ne.symm dTO) hTO⟩
        · exact .inr ⟨T, f, oT, hk _ _ (Ne.symm dz) hz, hk _ _ r4 hT, r1, r2, r3, r4⟩
      item := fun i s₁ Q₁ E₁ hi st hds hQ => by
        obtain ⟨hTI, h1, h2, hz⟩ := st
        have lt : ∀ {c o}, s₁.heap.get? c = some o → s₁.heap.objs.size ≠ c := fun e => Nat.ne_of_gt (Heap.lt_size e)
        have n1' : s₁.heap.objs.size ≠ i1 := let ⟨_, e⟩ := (D1 A hA).live _ _ h1; lt e
        have n2' : s₁.heap.objs.size ≠ i2 := let ⟨_, e⟩ := (D2 A hA).live _ _ h2; lt e
        rcases hz with ⟨hz, a, b, hTO⟩ | ⟨T, f, oT, hz, hT, r1, r2, r3, r4⟩
        · refine wpAny_pyNext_zipD2_item S (D1 A.in1 hA) (D2 A.in1 hA) hz hTI hTO h1 h2 hi hi fun x1 x2 h' tk p1 p2 a1 a2 a3 a4 a5 a6 hk => ?_
          exact hQ s₁.heap.objs.size _ _ h' tk ⟨p1, p2⟩ (.inl ⟨_, a5, rfl, _, rfl⟩)
            ⟨hk _ _ S.TIz S.TITO S.TIi1 S.TIi2 hTI, a3, a4, .inr ⟨s₁.heap.objs.size, false, _, a1, a5, lt hz, n1', n2', Nat.ne_of_gt hds⟩⟩
            fun c o hc e => hk c o (fun x => hc (by simp [x])) (fun x => hc (by simp [x])) (fun x => hc (by simp [x])) (fun x => hc (by simp [x])) e
        · refine pyNext_zipD2_item_held S (D1 A.in1 hA) (D2 A.in1 hA) hz hT hTI h1 h2 hi hi fun x1 x2 h' tk p1 p2 a1 a3 a4 a5 a6 hk => ?_
          exact hQ s₁.heap.objs.size _ _ h' tk ⟨p1, p2⟩ (.inl ⟨_, a5, rfl, _, rfl⟩)
            ⟨hk _ _ S.TIz S.TIi1 S.TIi2 hTI, a3, a4, .inr ⟨T, true, oT, a1, hk _ _ r1 r2 r3 hT, r1, r2, r3, r4⟩⟩
            fun c o hc e => hk c o (fun x => hc (by simp [x])) (fun x => hc (by simp [x])) (fun x => hc (by simp [x])) e
      done := fun s₁ Q₁ E₁ st hQ => by
        obtain ⟨hTI, h1, h2, hz⟩ := st
        rcases hz with ⟨hz, a, b, hTO⟩ | ⟨T, f, oT, hz, hT, r1, r2, r3, r4⟩
        · exact wpAny_pyNext_zipD2_end S (D1 A.in1 hA) (D2 A.in1 hA) hz hTI hTO h1 h2 (Nat.le_refl _) (Nat.le_refl _) (.inl rfl) fun h' tk hk => hQ h' tk
            fun c o hc e => hk c o (fun x => hc (by simp [x])) (fun x => hc (by simp [x])) (fun x => hc (by simp [x])) (fun x => hc (by simp [x])) e
        · exact pyNext_zipD2_end_held S (D1 A.in1 hA) (D2 A.in1 hA) hz hT hTI h1 fun h' hk => hQ h' s₁.toks
            fun c o hc e => hk c o (fun x => hc (by simp [x])) (fun x => hc (by simp [x])) (fun x => hc (by simp [x])) e }
end
theorem zip_map_get {α β γ : Type} (f : α → β → γ) : ∀ (l : List α) (m : List β) (i : Nat), ((l.zip m).map fun p => f p.1 p.2)[i]? = (l[i]?.bind fun a => m[i]?.map fun b => f a b)
  | [], _, i => by simp
  | a :: l, [], i => by cases h : (a :: l)[i]? <;> simp
  | a :: l, b :: m, 0 => rfl
  | a :: l, b :: m, i + 1 => by simpa using zip_map_get f l m i
theorem paired_zip {l : List Nat} : ∀ {ys : List V} {its : List Value}, Vals ys its → KV ((l.zip ys).map fun p => (tk [p.1], p.2)) ((l.zip its).map fun p => (tk [p.1], p.2)) := by
  induction l with
  | nil => intro ys its _; exact .nil
  | cons c l ih =>
    intro ys its r
    cases r with
    | nil => exact .nil
    | cons h t => exact .cons ⟨rfl, h⟩ (ih t)
def tDictZip (K : PySem.W.Frag) (ta : TA) : TE := fun σ H Q => ta σ H fun vs H1 => ∃ (l : List Nat) (b : Addr) (ys : List V), vs = [.str (S l), .ref b] ∧ SqT K H1 b ys ∧ ys.length = l.length ∧ l.length ≤ 1000 ∧
  ∀ p, H1 p = none → Q (.ref p) (upd H1 p (.dK (mergeK [] ((l.zip ys).map fun p => (tk [p.1], p.2)))))
theorem pe_dictZip {X : Cx} {e e2 : Expr} {ta : TA} {p p2 pos pos2 : Pos} (hc : X.calm = true) (hgd : Gl X "dict") (hmd : X.mg "dict" = none) (hg : Gl X "zip") (hm : X.mg "zip" = none) (ha : PA X [e, e2] ta)
    (hs : starEach [e, e2] X.env = (false, eval e X.env) :: starEach [e2] X.env := by rfl) (hpl : (backTo pos2 (starEach [e2] X.env)).any (·.1) = false := by rfl)
    (hs' : starEach [.Call (.Name "zip" p2) [e, e2] [] pos2] X.env = (false, eval (.Call (.Name "zip" p2) [e, e2] [] pos2) X.env) :: starEach [] X.env := by rfl) (hpl' : (backTo pos (starEach [] X.env)).any (·.1) = false := by rfl) :
    PE X (.Call (.Name "dict" p) [.Call (.Name "zip" p2) [e, e2] [] pos2] [] pos) (tDictZip X.K ta) := by
  refine ⟨fun pins s σ H Q I h => ?_⟩
  refine Call_ (ld_blt I hgd hmd PyProof.Rows.boot_dict (PyProof.Rows.callWith_type1 (Q := EP X pins σ Q) ?_ hs' hpl'))
  rw [hs']
  refine PySem.Calls.spliced_cons ?_
  refine Call_ (ld_blt I hg hm PyProof.Rows.boot_zip (PyProof.Rows.callWith_type1 (thn (ha.run pos2 pins s σ H _ I h) fun us s1 ⟨vs, H1, I1, r1, q1⟩ => ?_) hs hpl))
  obtain ⟨l, b, ys, ex, hb, hl, hz, q⟩ := q1
  subst ex
  obtain ⟨u, u', rfl, r, r'⟩ := vals2 r1
  obtain ⟨t, rfl⟩ := (show ∃ t, u = Value.str (S l) t from r)
  obtain rfl : u' = Value.ref b := r'
  obtain ⟨its, rv, ht, _⟩ := I1.tuple hb
  have hlen : its.toArray.size = (S l).cps.size := by rw [List.size_toArray, ← rv.length, hl]; simp [S]
  have hbl : b < s1.heap.objs.size := ht.lt
  refine zip_begins2 (begins_text (S l) t) (begins_tuple b its.toArray) trivial ht fun h' hz' hTI hTO h1 h2 hsz hk => ?_
  refine PySem.Calls.spliced_nil ?_
  have I2 : Inv X pins σ H1 { s1 with heap := h' } := I1.kept (t' := s1.toks) hk
  have f2 : ∀ a ∈ [b], a < s1.heap.objs.size := fun a h => by rw [List.mem_singleton.mp h]; exact hbl
  have S2 := PySem.zip_sep2 (N := s1.heap.objs.size) (fp1 := []) (fp2 := [b]) (fun _ h => nomatch h) f2
  have P := pairArg_zipD2 (prog := X.prog) (w := X.w) S2 (fun A hh => Draws.text hh s1.heap.objs.size (S l) t)
    (fun A hh => hlen ▸ Draws.tuple hh (s1.heap.objs.size + 1) b (Nat.ne_of_lt (Nat.lt_succ_of_lt hbl)) its.toArray)
  have ht2 : h'.IsTuple b its.toArray := (show s1.heap.IsTuple b its.toArray from ht).at fun o e => hk _ _ e
  have hn : H1 h'.objs.size = none := I2.hok.fresh (Nat.le_refl _)
  have hl2 : its.length = l.length := by rw [← rv.length, hl]
  refine PySem.call_dict_pairs (knd := mixKind X.prog X.w) (kvs := (l.zip its).map fun p => (tk [p.1], p.2)) P (I1.ok.hd hc) ?_ ⟨?_, ?_⟩ ?_ fun h3 tk3 hd3 hk3 => ?_
  · refine ⟨hz', hTI, ⟨_, _, hTO⟩, ⟨_, h1, rfl, rfl⟩, ⟨⟨_, h2, rfl, rfl⟩, ht2⟩, fun a ha => ?_⟩
    have e : a = s1.heap.objs.size ∨ a = s1.heap.objs.size + 1 ∨ a = b := by simpa using ha
    rcases e with rfl | rfl | rfl
    · exact ⟨_, h1⟩
    · exact ⟨_, h2⟩
    · obtain ⟨o, e, _⟩ := ht2; exact ⟨o, e⟩
  · rw [List.length_map, List.length_zip, hl2, Nat.min_self]; simp [S]
  · rintro i key v ⟨⟨c, u, hc', rfl⟩, hv⟩
    have hc2 : l[i]? = some c := by simpa [S] using hc'
    have hv2 : its[i]? = some v := by simpa using hv
    refine ⟨tk [c], ?_, kV_is (P := X.prog) (w := X.w) (k := tk [c]) ⟨u, rfl⟩⟩
    rw [zip_map_get (fun a b => (tk [a], b)), hc2, hv2]; rfl
  · simp [S]; exact Nat.le_trans hz (by decide)
  · have kvr : KV ((l.zip ys).map fun p => (tk [p.1], p.2)) ((l.zip its).map fun p => (tk [p.1], p.2)) := paired_zip rv
    have hm' : (h'.objs.size == sysModules) = false := beq_eq_false_iff_ne.mpr (Nat.ne_of_gt I2.big)
    have hlen2 : (mergeK [] ((l.zip ys).map fun p => (tk [p.1], p.2))).length ≤ sizeLine := by
      refine Nat.le_trans (length_mergeK _ []) ?_
      rw [List.length_nil, Nat.zero_add, List.length_map, List.length_zip, hl, Nat.min_self]
      exact Nat.le_trans hz (by decide)
    have keep3 : ∀ c o, s1.heap.get? c = some o → h3.get? c = some o := fun c o e => hk3 c o (fun hm => by
      have hlt : c < s1.heap.objs.size := Heap.lt_size e
      have e' : c = s1.heap.objs.size + 4 ∨ c = s1.heap.objs.size + 3 ∨ c = s1.heap.objs.size ∨ c = s1.heap.objs.size + 1 := by simpa using hm
      have hle : s1.heap.objs.size ≤ c := by
        rcases e' with z | z | z | z
        · rw [z]; exact Nat.le_add_right _ _
        · rw [z]; exact Nat.le_add_right _ _
        · rw [z]; exact Nat.le_refl _
        · rw [z]; exact Nat.le_add_right _ _
      exact Nat.lt_irrefl _ (Nat.lt_of_lt_of_le hlt hle)) (hk _ _ e)
    have hsz5 : s1.heap.objs.size ≤ h'.objs.size := by rw [hsz]; omega
    exact ⟨.ref h'.objs.size, upd H1 h'.objs.size (.dK (mergeK [] ((l.zip ys).map fun p => (tk [p.1], p.2)))), I1.laid (t' := tk3) keep3 hsz5 (show ObjOk X.prog X.w _ _ _ (.dK _) from ⟨hlen2, hm', merged [] _, KV.merge kvr .nil, hd3⟩), rfl, q _ hn⟩
end LX
set_option maxHeartbeats 2000000
namespace LX
open PySem PySem.Spec PyProof.Rows L2 C8 SX
theorem meets_enum1 {v : Value} {o : Obj} {H : Heap → Prop} (B : Begins v o H) :
    Meets (Builtin.«enumerate.__new__» ⟨[.type "enumerate", v], []⟩) (fun _ R s => H s.heap ∧
      R (.ok (.ret (.ref (s.heap.push o).objs.size))) { s with heap := (s.heap.push o).push { cls := .type "enumerate", data := .fields #[.none, .bool false, .ref s.heap.objs.size, rawInt 0, .none, .none] } }) :=
  .of_wp fun prog w A R s h => by
    obtain ⟨hp, g, d, tk, os⟩ := s; obtain ⟨h1, h⟩ := h
    have hsub := sub_enumerate
    have q1 : ∀ {A' : Around} {E : Value → Shared → Prop} {Q : Value → Shared → Prop}, Q (.ref hp.objs.size) ⟨hp.push o, g, d, tk, os⟩ → wpAny (model prog w) A' (pyIter v) Q E ⟨hp, g, d, tk, os⟩ :=
      fun q => B.iter prog w _ _ ⟨hp, g, d, tk, os⟩ _ h1 q
    wp_walk using q1
    refine wpAny_stack_any fun st => wpAny_pure ?_
    split
    · rename_i c _ _ _ _ _
      cases (c == Value.type "enumerate")
      · wp_walk using q1
        exact ⟨_, rfl, h⟩
      · wp_walk using q1
        exact ⟨_, rfl, h⟩
    · wp_walk using q1
      exact ⟨_, rfl, h⟩
theorem enum1_begins {prog : Program} {w : World} {A : Around} {E : Value → Shared → Prop} {s : Shared} {v : Value} {o : Obj} {H : Heap → Prop} {Q : Value → Shared → Prop} (B : Begins v o H) (h1 : H s.heap)
    (h : ∀ h', IsEnum h' (s.heap.objs.size + 1) s.heap.objs.size 0 .none → h'.get? s.heap.objs.size = some o → h'.objs.size = s.heap.objs.size + 2 →
      (∀ b o, s.heap.get? b = some o → h'.get? b = some o) → Q (.ref (s.heap.objs.size + 1)) { s with heap := h' }) :
    wpAny (model prog w) A (call (.type "enumerate") [v]) Q E s := by
  refine callType_new F.called_enumerate (by decide) (F.typeCall_enumerate_1 _) (F.newCall_enumerate_1 _) (fun obj => F.args_object_init_2 obj _) F.entry_enumerate_new
    (meets_enum1 B) ⟨h1, ?_⟩
  have hz : (s.heap.push o).objs.size = s.heap.objs.size + 1 := Heap.size_push ..
  show _ ∧ _
  rw [hz]
  have he : IsEnum ((s.heap.push o).push { cls := .type "enumerate", data := .fields #[.none, .bool false, .ref s.heap.objs.size, rawInt 0, .none, .none] }) (s.heap.objs.size + 1) s.heap.objs.size 0 .none := by
    have := Heap.get?_push_size (s.heap.push o) (o := { cls := .type "enumerate", data := .fields #[.none, .bool false, .ref s.heap.objs.size, rawInt 0, .none, .none] }) rfl
    rw [hz] at this; exact this
  refine ⟨⟨_, he, rfl⟩, h _ he (Heap.get?_push_of_some _ (Heap.get?_push_size _ B.free)) (by rw [Heap.size_push, hz]) fun b o x => Heap.get?_push_of_some _ (Heap.get?_push_of_some _ x)⟩
def IteX (K : PySem.W.Frag) (S : Sr) : It :=
  ⟨fun i H => S.has K i H, fun i H v H' => ∃ T x, v = .ref T ∧ H T = none ∧ H' = upd H T (.tup [.int (i : Nat), x]) ∧ S.val K i H x, fun i H => S.upto K i H ∧ S.ends K i H⟩
theorem turn_enumX {P : Program} {w : World} {K : PySem.W.Frag} {elts : List Expr} {kk : Nat} {tpos : Pos} {e it : Addr} (S : Sr) (n1 : ∀ a ∈ S.fp, a ≠ it) (ne : e ≠ it) (nf : e ∉ S.fp) :
    Turn P w K (.Tuple elts kk tpos) (IteX K S) [e, it] e (fun i h => (∃ old, IsEnum h e it ((i : Nat) : Int) old) ∧ S.tn it i h) where
  mem := by simp
  obj := fun i h st b hb => by
    obtain ⟨⟨old, he⟩, h1⟩ := st
    have e' : b = e ∨ b = it := by simpa using hb
    rcases e' with z | z
    · rw [z]; exact ⟨_, he, fun v q => nomatch q⟩
    · rw [z]; exact Sr.tn_obj h1
  keep := fun i h h' st k => let ⟨⟨old, he⟩, h1⟩ := st; ⟨⟨old, k e (by simp) _ he⟩, Sr.tn_keep h1 fun o q => k it (by simp) o q⟩
  item := by
    intro X hP hw hK hc i pins s σ H E I hf st hg
    subst hP hw hK
    obtain ⟨⟨old, he⟩, h1⟩ := st
    obtain ⟨m1, ⟨P1, St1, D1, st1, v1, t1⟩, _, lt1, _⟩ := S.draws I n1 h1 (Sr.has_upto hg)
    have hel : e < s.heap.objs.size := Heap.lt_size he
    have hil : it < s.heap.objs.size := by obtain ⟨_, q, _⟩ := Sr.tn_obj h1; exact Heap.lt_size q
    refine wpAny_pyNext_enum_itemD (D1 _ (I.ok.hd hc)) he st1 (lt1 hg) ne (by simp [ne, nf]) fun u h' tk p1 ho st1' hT hsz hk => ?_
    obtain ⟨x, hx, rx⟩ := v1 u p1
    refine ⟨_, rfl, wpAny_letOwnedTupleGo_enum (s := { s with heap := h', toks := tk + 1 }) ho fun h'' he' sb => ?_⟩
    have hT2 : h''.get? s.heap.objs.size = some { cls := .type "tuple", data := .seq #[.int i tk, u] } := (sb.2 _ (Nat.ne_of_gt hel)).trans hT
    have new : ObjOk X.prog X.w (upd H s.heap.objs.size (.tup [.int (i : Nat), x])) h'' s.heap.objs.size (.tup [.int (i : Nat), x]) :=
      ⟨by show 2 ≤ sizeLine; decide, [.int i tk, u], .cons ⟨_, rfl⟩ (.cons rx .nil), ⟨_, hT2, rfl, _, rfl⟩⟩
    have I1 : Inv X pins σ (upd H s.heap.objs.size (.tup [.int (i : Nat), x])) { s with heap := h'', toks := tk + 1 } :=
      I.turnedNew (ch := [e, it]) (fun b ob hb q => (sb.2 b (fun z => hb (by simp [z]))).trans (hk b ob (fun z => hb (by simp [z])) (fun z => hb (by simp [z])) q)) hf (Nat.le_refl _) new
    refine ⟨.ref s.heap.objs.size, _, I1, rfl, ⟨_, x, rfl, I.hok.fresh (Nat.le_refl _), rfl, hx⟩, ⟨⟨u, ?_⟩, Sr.tn_keep (t1 _ _ st1') fun o q => (sb.2 it (Ne.symm ne)).trans q⟩, fun b hb => ?_⟩
    · have e1 : ((i + 1 : Nat) : Int) = (i : Int) + 1 := by omega
      rw [e1]; exact he'
    · have hb' : b < s.heap.objs.size := by
        have e' : b = e ∨ b = it := by simpa using hb
        rcases e' with z | z
        · rw [z]; exact hel
        · rw [z]; exact hil
      rw [upd_ne (Nat.ne_of_lt hb')]
      exact (hf b hb).1
  done := by
    intro X hP hw hK hc i pins s σ H E I hf st hg
    subst hP hw hK
    obtain ⟨⟨old, he⟩, h1⟩ := st
    obtain ⟨g1, ge⟩ := hg
    obtain ⟨m1, ⟨P1, St1, D1, st1, v1, t1⟩, _, _, eq1⟩ := S.draws I n1 h1 g1
    obtain ⟨f0, f1, f2, f3, f4, f5⟩ := hf it (by simp)
    have e1 := eq1 ge
    subst e1
    exact wpAny_pyNext_enum_endD (D1 _ (I.ok.hd hc)) he st1 fun h' eb => ⟨rfl, I.turned (t' := s.toks) (fun b o hb q => eb b o hb q) f0 f1 f3 f4 f5⟩
  self := fun A i s Q E st h => let ⟨⟨_, he⟩, _⟩ := st; wpAny_pyIter_enum he h
def iEnumX (K : PySem.W.Frag) (ta : TA) : TI := fun σ H R => ta σ H fun vs H1 => ∃ (x : V) (S : Sr), vs = [x] ∧ S.of x ∧ S.there K H1 ∧ R (IteX K S) H1
theorem pi_enumX {X : Cx} {e : Expr} {ta : TA} {p pos tpos : Pos} {elts : List Expr} {kk : Nat} (hg : Gl X "enumerate") (hm : X.mg "enumerate" = none) (ha : PA X [e] ta) (hs : starEach [e] X.env = [(false, eval e X.env)] := by rfl) :
    PI X (.Tuple elts kk tpos) (.Call (.Name "enumerate" p) [e] [] pos) (iEnumX X.K ta) := by
  refine ⟨fun pins s σ H R I h => ?_⟩
  refine Call_ (ld_blt I hg hm PyProof.Rows.boot_enumerate (PyProof.Rows.callWith_type1 (thn (ha.run pos pins s σ H _ I h) fun us s1 ⟨vs, H1, I1, r1, q1⟩ => ?_) hs rfl))
  obtain ⟨x, S, ex, e1, th1, q⟩ := q1
  subst ex
  obtain ⟨u, rfl, r⟩ := vals1 r1
  obtain ⟨o1, HH1, B1, b1, f1, t1⟩ := Sr.begins I1 r e1 th1
  refine enum1_begins B1 b1 fun h' he hit hsz hk => wpAny_pyIter_enum he ?_
  have I2 : Inv X pins σ H1 { s1 with heap := h' } := I1.kept (t' := s1.toks) hk
  refine ⟨s1.heap.objs.size + 1, [s1.heap.objs.size + 1, s1.heap.objs.size], _, _, H1, rfl, I2, turn_enumX S (fun a ha => Nat.ne_of_lt (f1 a ha)) (Nat.succ_ne_self _) (fun hm => Nat.not_lt.mpr (Nat.le_add_right _ _) (f1 _ hm)), ⟨⟨.none, he⟩, t1 _ _ hit⟩, fun b hb => ?_, q⟩
  have e' : b = s1.heap.objs.size + 1 ∨ b = s1.heap.objs.size := by simpa using hb
  have hle : s1.heap.objs.size ≤ b := by
    rcases e' with z | z
    · rw [z]; exact Nat.le_add_right _ _
    · rw [z]; exact Nat.le_refl _
  exact I1.fpOk hle (I1.hok.fresh hle)
theorem walk_enumX {K : PySem.W.Frag} {S : Sr} {xs : List V} : Walk (IteX K S) xs.length (fun H => S.is K H xs) (YPair (fun i => some (.int (i : Nat))) (fun i => xs[i]?)) := by
  refine ⟨fun i H hi q => Sr.is_has hi q, fun H q => ⟨Sr.is_upto (Nat.le_refl _) q, Sr.is_ends rfl q⟩, fun i H v H' _ q y => ?_⟩
  obtain ⟨T, x, h1, h2, h3, h4⟩ := y
  exact ⟨T, .int (i : Nat), x, h1, h2, h3, rfl, Sr.is_val q h4⟩
theorem dc_keep {Rel : Hp → Hp → Prop} {J : It} {n : Nat} {G : Hp → Prop} {Y : Nat → Hp → V → Hp → Prop} {H1 : Hp} (kp : Keep Rel H1) (w : Walk J n G Y) {g : TG} {ka te : TE} {vs : List Nat} {σ : L2.St} {D : Addr} {Qd : Hp → Prop} (hD : H1 D = none) (hn : n < sizeLine)
    (key : Nat → Key) (Good : Nat → V → Hp → Prop) (hG : ∀ H, Rel H1 H → G H) (inj : ∀ i j, i < n → j < i → key j ≠ key i)
    (st : ∀ i y H H', Rel H1 H → Rel H H' → Good i y H → Good i y H') (pt : ∀ i y H acc o, Rel H1 H → H D = some (.dK acc) → Good i y H → Good i y (upd H D o))
    (hs : ∀ i x H H' acc (R : V → V → Hp → Prop), i < n → Rel H1 H → H D = some (.dK acc) → Y i H x H' → (∀ y H4, Rel H H4 → Good i y H4 → R (kV (key i)) y H4) → g x (wipe σ vs) H' fun σ2 H2 => wipe σ2 vs = wipe σ vs ∧ ka σ2 H2 fun k H3 => te σ2 H3 fun z H4 => R k z H4)
    (hd : ∀ ys H, ys.length = n → (∀ (j : Nat) y, ys[j]? = some y → Good j y H) → Rel H1 H → H D = some (.dK ((List.range n).zip ys |>.map fun p => (key p.1, p.2))) → Qd H) :
    ∃ W : Nat → Nat → Hp → Prop, (∃ m, W 0 m (upd H1 D (.dK []))) ∧ ∀ i m H, W i m H →
      (J.stop i H ∧ Qd H) ∨ (J.go i H ∧ ∃ Nx : Hp → Prop, (∀ H', Nx H' → ∃ m', m' < m ∧ W (i + 1) m' H') ∧ ∀ x H', J.yld i H x H' → g x (wipe σ vs) H' fun σ2 H2 => wipe σ2 vs = wipe σ vs ∧ tYes σ2 H2 fun b H3 =>
        if b = true then ka σ2 H3 fun y H4 => te σ2 H4 fun z H5 => ∃ kvs k, y = kV k ∧ H5 D = some (.dK kvs) ∧ kvs.length < sizeLine ∧ Nx (upd H5 D (.dK (putK kvs k z))) else Nx H3) := by
  refine ⟨fun i m H => m = n - i ∧ i ≤ n ∧ ∃ ys : List V, ys.length = i ∧ H D = some (.dK ((List.range i).zip ys |>.map fun p => (key p.1, p.2))) ∧ Rel H1 H ∧ ∀ (j : Nat) y, ys[j]? = some y → Good j y H, ⟨n, by omega, Nat.zero_le _, [], rfl, upd_same, kp.put _ _ _ kp.refl hD, fun j y e => by simp at e⟩, ?_⟩
  rintro i m H ⟨rfl, hi, ys, hl, hDa, r, hg⟩
  rcases Nat.lt_or_ge i n with h | h
  · refine .inr ⟨w.goes i H h (hG H r), fun H' => ∃ ys : List V, ys.length = i + 1 ∧ H' D = some (.dK ((List.range (i + 1)).zip ys |>.map fun p => (key p.1, p.2))) ∧ Rel H1 H' ∧ ∀ (j : Nat) y, ys[j]? = some y → Good j y H', fun H' h' => ⟨n - (i + 1), by omega, rfl, h, h'⟩, fun x H' hy => ?_⟩
    have key2 : ∀ (z : V) H5, Rel H H5 → Good i z H5 → ∃ kvs k, kV (key i) = kV k ∧ H5 D = some (.dK kvs) ∧ kvs.length < sizeLine ∧ ∃ ys : List V, ys.length = i + 1 ∧ (upd H5 D (.dK (putK kvs k z))) D = some (.dK ((List.range (i + 1)).zip ys |>.map fun p => (key p.1, p.2))) ∧ Rel H1 (upd H5 D (.dK (putK kvs k z))) ∧ ∀ (j : Nat) y, ys[j]? = some y → Good j y (upd H5 D (.dK (putK kvs k z))) := fun z H5 r5 gz => by
      have hD5 := kp.get _ _ _ _ r5 hD r hDa
      have r6 := kp.trans _ _ r r5
      refine ⟨_, key i, rfl, hD5, by rw [List.length_map, List.length_zip, List.length_range, hl]; omega, ys ++ [z], by simp [hl], ?_, kp.put _ _ _ r6 hD, fun j y e => ?_⟩
      · rw [upd_same]
        congr 2
        rw [putK_new _ (valV_none fun p hp => ?_), List.range_succ, List.zip_append (by rw [List.length_range, hl])]
        · simp
        · obtain ⟨q, hq, rfl⟩ := List.mem_map.mp hp
          have : q.1 < i := List.mem_range.mp (List.of_mem_zip hq).1
          exact inj i q.1 h this
      · rcases Nat.lt_or_ge j ys.length with h | h
        · rw [List.getElem?_append_left h] at e
          exact pt _ _ _ _ _ r6 hD5 (st _ _ _ _ r r5 (hg j y e))
        · rw [List.getElem?_append_right h] at e
          have hj : j - ys.length = 0 := by
            rcases Nat.lt_or_ge (j - ys.length) 1 with z | z
            · omega
            · rw [List.getElem?_eq_none (by simpa using z)] at e; cases e
          rw [hj] at e
          have : z = y := Option.some.inj e
          subst this
          have : j = i := by omega
          subst this
          exact pt _ _ _ _ _ r6 hD5 gz
    exact hs i x H H' _ (fun k z H5 => ∃ kvs k', k = kV k' ∧ H5 D = some (.dK kvs) ∧ kvs.length < sizeLine ∧ ∃ ys : List V, ys.length = i + 1 ∧ (upd H5 D (.dK (putK kvs k' z))) D = some (.dK ((List.range (i + 1)).zip ys |>.map fun p => (key p.1, p.2))) ∧ Rel H1 (upd H5 D (.dK (putK kvs k' z))) ∧ ∀ (j : Nat) y, ys[j]? = some y → Good j y (upd H5 D (.dK (putK kvs k' z)))) h r hDa (w.yields i H x H' h (hG H r) hy) fun y H4 r4 gy => key2 y H4 r4 gy
  · have : i = n := by omega
    subst this
    exact .inl ⟨w.stops H (hG H r), hd ys H hl hg r hDa⟩
end LX
set_option maxHeartbeats 4000000
namespace LX
open PySem PySem.Spec PyProof.Rows L2 C8 SX
theorem inK {X : Cx} (K : PySem.W.Frag) (h : X.K = K := by rfl) : OpR X (compareOp .In) (rIn K false) := by subst h; exact op_in_seq
theorem notInK {X : Cx} (K : PySem.W.Frag) (h : X.K = K := by rfl) : OpR X (compareOp .NotIn) (rIn K true) := by subst h; exact op_notIn_seq
section
variable {prog : Program} {w : World} {A : Around} {R : Result → Shared → Prop} {I S : Addr} {fp wr : List Addr} {G : Array GenState → Array GenState → Prop} {n : Nat} {P : Nat → Value → Prop} {St : Nat → Shared → Prop}
abbrev setO (led : Bool) : Obj := { cls := .type "set", dict := none, data := .set #[] 0 (.fresh 0 0 led) }
abbrev Elem (prog : Program) (w : World) (xs : List Str) (i : Nat) (S : Addr) (h : Heap) : Prop := h.SetOf (PySem.strKind prog w) S (fun k => decide (k ∈ xs.take i)) i
theorem Elem.stay {xs : List Str} {i : Nat} {h h' : Heap} (e : Elem prog w xs i S h) (k : ∀ o, h.get? S = some o → h'.get? S = some o) : Elem prog w xs i S h' :=
  let ⟨o, es, ep, tb, ho, rest⟩ := e; ⟨o, es, ep, tb, k o ho, rest⟩
theorem set_loopT (W : WalksS prog w A.in1 I fp wr G n P St) (off : S ∉ fp) {xs : List Str} (hl : xs.length = n) (nd : xs.Nodup) (room : n < scanBound) (val : ∀ i v, P i v → ∃ x t, xs[i]? = some x ∧ v = .str x t) :
    ∀ (k i : Nat) (s : Shared), i + k = n → St i s → Elem prog w xs i S s.heap → (∀ s', Moved (S :: wr) G s s' → Elem prog w xs n S s'.heap → R (.ok (.ret .none)) s') →
      codeAny (model prog w) A (.builtin "set.update.loop" ⟨[.ref S, .ref I], []⟩) R s
  | 0, i, s, hk, hst, he, hR => by
    obtain rfl : i = n := hk
    refine codeAny_builtin PyProof.Rows.F.entry_set_update_loop ?_
    rw [Around.under_plainId PyProof.Rows.F.plain_set_update_loop _]
    refine wpAny_bind (W.done s _ _ hst fun s' hm => wpAny_pure (hR s' (hm.mono fun b hb => List.mem_cons_of_mem _ hb) (he.stay fun o e => hm.heap S o (fun h => off (W.sub _ h)) e)))
  | k + 1, i, s, hk, hst, he, hR => by
    refine codeAny_builtin PyProof.Rows.F.entry_set_update_loop ?_
    rw [Around.under_plainId PyProof.Rows.F.plain_set_update_loop _]
    refine wpAny_bind (W.item i s _ _ (by omega) hst fun v s' hP hst' hm => ?_)
    obtain ⟨x, t, hx, rfl⟩ := val i v hP
    have he' : Elem prog w xs i S s'.heap := he.stay fun o e => hm.heap S o (fun h => off (W.sub _ h)) e
    show wpAny _ A.in1 (holding [Value.str x t] (setAdd S (.str x t)) >>= _) _ _ s'
    refine wpAny_bind (wpAny_holding ?_)
    unfold setAdd
    refine wpAny_holding (wpAny_bind ((PySem.strKind prog w).pyHash (k := x) (strKind_is _ _ _ _) ?_))
    refine wpAny_setAddHashed_of (knd := PySem.strKind prog w) (s := { s' with toks := s'.toks + 1 }) (strKind_is _ _ _ _) rfl he' (by omega) fun h' hsb hS2 => ?_
    have hni : x ∉ xs.take i := not_in_take nd hx
    have he2 : Elem prog w xs (i + 1) S h' := SetOf_congr hS2 (fun y => by rw [take_more hx]; by_cases e : y ∈ xs.take i <;> by_cases e2 : y = x <;> simp [e, e2]) (by rw [if_neg (by simpa using hni)])
    refine wpAny_pure ⟨plainId_quiet PyProof.Rows.F.plain_set_update_loop _, set_loopT W off hl nd room val k (i + 1) _ (by omega) (W.frame _ s' _ _ hst' (Nat.le_succ _) fun b hb o e => ?_) he2 fun s2 hm2 he3 => ?_⟩
    · rw [hsb.2 b (fun h => off (h ▸ hb))]; exact e
    · refine hR s2 (Moved.trans W.gtrans ((hm.mono fun b hb => List.mem_cons_of_mem _ hb).then_heap (Nat.le_succ _) fun b o hb e => ?_) hm2) he3
      rw [hsb.2 b (fun h => hb (by rw [h]; exact List.mem_cons_self))]; exact e
end
section
variable {prog : Program} {w : World} {A : Around} {E : Value → Shared → Prop} {s : Shared}
theorem set_of_list {l : Addr} {items : Array Value} {xs : List Str} {Q : Value → Shared → Prop} (hh : A.handled = none) (hl : s.heap.IsList l items) (hi : PyProof.Rows.StrsAre items.toList xs) (nd : xs.Nodup) (room : xs.length < scanBound)
    (h : ∀ (h' : Heap) (tk : Nat), Elem prog w xs xs.length s.heap.objs.size h' → (∀ b o, s.heap.get? b = some o → h'.get? b = some o) → Q (.ref s.heap.objs.size) { s with heap := h', toks := tk }) :
    wpAny (model prog w) A (call (.type "set") [.ref l]) Q E s := by
  obtain ⟨c, tl, hmro⟩ := PySem.F.called_set.mro
  have hmade := PySem.F.called_set.made
  have hsub := PySem.F.called_set.sub
  refine wpAny_call (codeAny_of_tree ?_)
  refine wpAny_pure ⟨Code.quiet_builtin _ (by decide +kernel), codeAny_builtin PySem.F.entry_type_call ?_⟩
  rw [Around.under_plain (weight_type_call_type "set" [.ref l] []) rfl]
  have nt := PySem.F.called_set.notType
  have cc := PySem.F.called_set.canCreate
  have ct := PySem.F.typeCall_set_1 (.ref l)
  repeat (any_goals (first | assumption | wp_step))
  refine codeAny_mono (code_set_new_1 (.ref l) (E := E) (Q₁ := fun obj s1 => ∃ led : Bool, obj = .ref s.heap.objs.size ∧ s1 = { s with heap := s.heap.push { cls := .type "set", dict := none, data := .set #[] 0 (.fresh 0 0 led) } }) fun led => ⟨led, rfl, rfl⟩) fun r s1 hr => ?_
  match r, hr with
  | .ok (.ret obj), hr =>
    obtain ⟨led, rfl, rfl⟩ := hr
    have hS : (s.heap.push (setO led)).get? s.heap.objs.size = some (setO led) := Heap.get?_push_size _ rfl
    have hTy : Shared.TypeIs { s with heap := s.heap.push (setO led) } (.ref s.heap.objs.size) "set" := ⟨_, hS, rfl⟩
    have li := PySem.F.called_set.init.lookup
    have bi := PySem.F.called_set.init.bind (.ref s.heap.objs.size)
    repeat (any_goals (first | assumption | wp_step))
    refine codeAny_mono (codeAny_call_builtin (R := wants (fun r s2 => r = .none ∧ ∃ h' tk, s2 = { s with heap := h', toks := tk } ∧ Elem prog w xs xs.length s.heap.objs.size h' ∧ (∀ b o, s.heap.get? b = some o → h'.get? b = some o)) E)
      PySem.F.called_set.init.plain PySem.F.entry_set_init (check_set_init_1 hTy ?_)) fun r2 s2 hr2 => ?_
    · obtain ⟨⟨oc, od, odt, osl⟩, hol, hcl, nl, hdl⟩ := hl
      dsimp only at hcl hdl
      subst hcl hdl
      have hol' : (s.heap.push (setO led)).get? l = some { cls := .type "list", dict := od, data := .seq items nl, slots := osl } := Heap.get?_push_of_some _ hol
      have ss := PySem.F.sub_list_set
      have sf := PySem.F.sub_list_frozenset
      have ne : (Value.type "list" == Value.type "dict") = false := by decide
      have hl1 : (s.heap.push (setO led)).IsList l items := ⟨_, hol', rfl, nl, rfl⟩
      unfold Builtin.«set.__init__» noKeywords Builtin.Frozenset.updateFrom
      generalize hPI : pyIter = PI
      wp_walk
      subst hPI
      refine wpAny_pyIter_list hl1 ?_
      refine wpAny_bind (wpAny_runValue ?_)
      have hlS : l < s.heap.objs.size := Heap.lt_size hol
      have hz : (s.heap.push (setO led)).objs.size = s.heap.objs.size + 1 := Heap.size_push ..
      have neI : l ≠ (s.heap.push (setO led)).objs.size := by rw [hz]; exact Nat.ne_of_lt (Nat.lt_succ_of_lt hlS)
      have off : s.heap.objs.size ∉ [(s.heap.push (setO led)).objs.size, l] := by
        rw [hz]; simp only [List.mem_cons, List.not_mem_nil, or_false, not_or]
        exact ⟨Nat.ne_of_lt (Nat.lt_succ_self _), Nat.ne_of_gt hlS⟩
      have hsz : xs.length = items.size := by rw [← StrsAre.len_eq hi, Array.length_toList]
      refine set_loopT (xs := xs) ((Walks.list (A := A.in1.in1.in1) (by simp [hh]) _ l neI items).toS) off hsz nd (by rw [← hsz]; exact room) (fun i v hv => ?_) items.size 0 _ (Nat.zero_add _) ⟨⟨_, Heap.get?_push_size _ rfl, rfl, rfl⟩, hl1.push _⟩ ?_ fun s' hm hS' => ?_
      · obtain ⟨t, e⟩ := SS.strs_at hi i v (by rw [Array.getElem?_toList]; exact hv)
        have hlt : i < xs.length := by rw [hsz]; exact (Array.getElem?_eq_some_iff.mp hv).1
        exact ⟨xs[i], t, List.getElem?_eq_getElem hlt, by rw [e, List.getD_eq_getElem?_getD, List.getElem?_eq_getElem hlt]; rfl⟩
      · exact PyProof.Rows.SetOf_congr ((PyProof.Rows.setObjOf_fresh (knd := PySem.strKind prog w) led).setOf (Heap.get?_push_of_some _ hS) (by unfold scanBound; omega)) (fun _ => by simp) rfl
      · obtain ⟨h', g', d', tk', os'⟩ := s'
        obtain rfl : g' = s.gens := hm.gens
        obtain rfl : d' = s.drawn := hm.drawn
        obtain rfl : os' = s.os := hm.os
        refine wpAny_pure (wpAny_pure ⟨rfl, h', tk', rfl, by rw [hsz]; exact hS', fun b o e => ?_⟩)
        have hb : b < s.heap.objs.size := Heap.lt_size e
        refine hm.heap b o (fun hmem => ?_) (Heap.get?_push_of_some _ (Heap.get?_push_of_some _ e))
        have e' : b = s.heap.objs.size ∨ b = (s.heap.push (setO led)).objs.size := by simpa using hmem
        rcases e' with e' | e'
        · exact Nat.ne_of_lt hb e'
        · rw [hz] at e'; exact Nat.ne_of_lt (Nat.lt_succ_of_lt hb) e'
    · match r2, hr2 with
      | .ok (.ret r), hr2 =>
        obtain ⟨rfl, h', tk, rfl, hS', hk'⟩ := hr2
        repeat (any_goals (first | assumption | wp_step))
        exact h _ _ hS' hk'
      | .error e, hr2 => exact hr2
  | .error e, hr => exact hr
end
section
variable {prog : Program} {w : World} {A : Around} {E : Value → Shared → Prop} {s : Shared}
theorem set_of_tuple {l : Addr} {items : Array Value} {xs : List Str} {Q : Value → Shared → Prop} (hh : A.handled = none) (hl : s.heap.IsTuple l items) (hi : PyProof.Rows.StrsAre items.toList xs) (nd : xs.Nodup) (room : xs.length < scanBound)
    (h : ∀ (h' : Heap) (tk : Nat), Elem prog w xs xs.length s.heap.objs.size h' → (∀ b o, s.heap.get? b = some o → h'.get? b = some o) → Q (.ref s.heap.objs.size) { s with heap := h', toks := tk }) :
    wpAny (model prog w) A (call (.type "set") [.ref l]) Q E s := by
  obtain ⟨c, tl, hmro⟩ := PySem.F.called_set.mro
  have hmade := PySem.F.called_set.made
  have hsub := PySem.F.called_set.sub
  refine wpAny_call (codeAny_of_tree ?_)
  refine wpAny_pure ⟨Code.quiet_builtin _ (by decide +kernel), codeAny_builtin PySem.F.entry_type_call ?_⟩
  rw [Around.under_plain (weight_type_call_type "set" [.ref l] []) rfl]
  have nt := PySem.F.called_set.notType
  have cc := PySem.F.called_set.canCreate
  have ct := PySem.F.typeCall_set_1 (.ref l)
  repeat (any_goals (first | assumption | wp_step))
  refine codeAny_mono (code_set_new_1 (.ref l) (E := E) (Q₁ := fun obj s1 => ∃ led : Bool, obj = .ref s.heap.objs.size ∧ s1 = { s with heap := s.heap.push { cls := .type "set", dict := none, data := .set #[] 0 (.fresh 0 0 led) } }) fun led => ⟨led, rfl, rfl⟩) fun r s1 hr => ?_
  match r, hr with
  | .ok (.ret obj), hr =>
    obtain ⟨led, rfl, rfl⟩ := hr
    have hS : (s.heap.push (setO led)).get? s.heap.objs.size = some (setO led) := Heap.get?_push_size _ rfl
    have hTy : Shared.TypeIs { s with heap := s.heap.push (setO led) } (.ref s.heap.objs.size) "set" := ⟨_, hS, rfl⟩
    have li := PySem.F.called_set.init.lookup
    have bi := PySem.F.called_set.init.bind (.ref s.heap.objs.size)
    repeat (any_goals (first | assumption | wp_step))
    refine codeAny_mono (codeAny_call_builtin (R := wants (fun r s2 => r = .none ∧ ∃ h' tk, s2 = { s with heap := h', toks := tk } ∧ Elem prog w xs xs.length s.heap.objs.size h' ∧ (∀ b o, s.heap.get? b = some o → h'.get? b = some o)) E)
      PySem.F.called_set.init.plain PySem.F.entry_set_init (check_set_init_1 hTy ?_)) fun r2 s2 hr2 => ?_
    · obtain ⟨⟨oc, od, odt, osl⟩, hol, hcl, nl, hdl⟩ := hl
      dsimp only at hcl hdl
      subst hcl hdl
      have hol' : (s.heap.push (setO led)).get? l = some { cls := .type "tuple", dict := od, data := .seq items nl, slots := osl } := Heap.get?_push_of_some _ hol
      have ss := PySem.F.sub_tuple_set
      have sf := PySem.F.sub_tuple_frozenset
      have ne : (Value.type "tuple" == Value.type "dict") = false := by decide
      have hl1 : (s.heap.push (setO led)).IsTuple l items := ⟨_, hol', rfl, nl, rfl⟩
      unfold Builtin.«set.__init__» noKeywords Builtin.Frozenset.updateFrom
      generalize hPI : pyIter = PI
      wp_walk
      subst hPI
      refine wpAny_pyIter_tuple hl1 ?_
      refine wpAny_bind (wpAny_runValue ?_)
      have hlS : l < s.heap.objs.size := Heap.lt_size hol
      have hz : (s.heap.push (setO led)).objs.size = s.heap.objs.size + 1 := Heap.size_push ..
      have neI : l ≠ (s.heap.push (setO led)).objs.size := by rw [hz]; exact Nat.ne_of_lt (Nat.lt_succ_of_lt hlS)
      have off : s.heap.objs.size ∉ [(s.heap.push (setO led)).objs.size, l] := by
        rw [hz]; simp only [List.mem_cons, List.not_mem_nil, or_false, not_or]
        exact ⟨Nat.ne_of_lt (Nat.lt_succ_self _), Nat.ne_of_gt hlS⟩
      have hsz : xs.length = items.size := by rw [← StrsAre.len_eq hi, Array.length_toList]
      refine set_loopT (xs := xs) ((Walks.tuple (A := A.in1.in1.in1) (by simp [hh]) _ l neI items).toS) off hsz nd (by rw [← hsz]; exact room) (fun i v hv => ?_) items.size 0 _ (Nat.zero_add _) ⟨⟨_, Heap.get?_push_size _ rfl, rfl, rfl⟩, hl1.push _⟩ ?_ fun s' hm hS' => ?_
      · obtain ⟨t, e⟩ := SS.strs_at hi i v (by rw [Array.getElem?_toList]; exact hv)
        have hlt : i < xs.length := by rw [hsz]; exact (Array.getElem?_eq_some_iff.mp hv).1
        exact ⟨xs[i], t, List.getElem?_eq_getElem hlt, by rw [e, List.getD_eq_getElem?_getD, List.getElem?_eq_getElem hlt]; rfl⟩
      · exact PyProof.Rows.SetOf_congr ((PyProof.Rows.setObjOf_fresh (knd := PySem.strKind prog w) led).setOf (Heap.get?_push_of_some _ hS) (by unfold scanBound; omega)) (fun _ => by simp) rfl
      · obtain ⟨h', g', d', tk', os'⟩ := s'
        obtain rfl : g' = s.gens := hm.gens
        obtain rfl : d' = s.drawn := hm.drawn
        obtain rfl : os' = s.os := hm.os
        refine wpAny_pure (wpAny_pure ⟨rfl, h', tk', rfl, by rw [hsz]; exact hS', fun b o e => ?_⟩)
        have hb : b < s.heap.objs.size := Heap.lt_size e
        refine hm.heap b o (fun hmem => ?_) (Heap.get?_push_of_some _ (Heap.get?_push_of_some _ e))
        have e' : b = s.heap.objs.size ∨ b = (s.heap.push (setO led)).objs.size := by simpa using hmem
        rcases e' with e' | e'
        · exact Nat.ne_of_lt hb e'
        · rw [hz] at e'; exact Nat.ne_of_lt (Nat.lt_succ_of_lt hb) e'
    · match r2, hr2 with
      | .ok (.ret r), hr2 =>
        obtain ⟨rfl, h', tk, rfl, hS', hk'⟩ := hr2
        repeat (any_goals (first | assumption | wp_step))
        exact h _ _ hS' hk'
      | .error e, hr2 => exact hr2
  | .error e, hr => exact hr
end
section
variable {X : Cx}
def tLenSetT (K : PySem.W.Frag) (ta : TE) : TE := fun σ H Q => ta σ H fun x H1 => ∃ (l : Addr) (xs : List (List Nat)), x = V.ref l ∧ (SqL K H1 l (txs xs) ∨ SqT K H1 l (txs xs)) ∧ xs.length < 60 ∧ xs.Nodup ∧ Q (.int xs.length) H1
theorem nodup_S {xs : List (List Nat)} (h : xs.Nodup) : (xs.map S).Nodup := List.pairwise_map.mpr (h.imp fun n e => n (by have : (S _).cps.toList = (S _).cps.toList := congrArg (fun z : Str => z.cps.toList) e; simpa [S] using this))
theorem pe_lenSetT {a : Expr} {ta : TE} {p p2 q pos : Pos} (hc : X.calm = true) (hg : Gl X "len") (hm : X.mg "len" = none) (hg2 : Gl X "set") (hm2 : X.mg "set" = none) (ha : PE X a ta)
    (na : starEach [a] X.env = (false, eval a X.env) :: starEach [] X.env := by rfl) : PE X (.Call (.Name "len" p) [.Call (.Name "set" p2) [a] [] q] [] pos) (tLenSetT X.K ta) := by
  refine ⟨fun pins s σ H Q I h => ?_⟩
  refine Call_ (ld_blt I hg hm PySem.boot_len (PyProof.Rows.callWith_builtin1 (PyProof.Rows.args_cons ?_ rfl) rfl rfl))
  refine Call_ (ld_blt I hg2 hm2 PyProof.Rows.boot_set (PyProof.Rows.callWith_type1 (PyProof.Rows.args_cons (thn (ha.run pins s σ H _ I h) fun v s1 ⟨x, H1, I1, r1, q1⟩ => PyProof.Rows.args_nil ?_) na) na rfl))
  obtain ⟨l, xs, rfl, hq, h1, hnd, q1⟩ := q1
  cases r1
  have e0 : txs xs = (xs.map S).map V.str := by unfold txs; rw [List.map_map]; rfl
  have room : (xs.map S).length < scanBound := by rw [List.length_map]; unfold scanBound; omega
  have fin : ∀ (h' : Heap) (tk : Nat), Elem X.prog X.w (xs.map S) (xs.map S).length s1.heap.objs.size h' → (∀ b o, s1.heap.get? b = some o → h'.get? b = some o) →
      wpAny (model X.prog X.w) X.A (spliced (backTo pos (starEach [] X.env))) (fun vs s₂ => wpAny (model X.prog X.w) X.A (call (.builtin "len") (Value.ref s1.heap.objs.size :: vs)) (EP X pins σ Q) X.xe s₂) X.xe { s1 with heap := h', toks := tk } := fun h' tk hS hk => by
    refine PyProof.Rows.args_nil ?_
    obtain ⟨o, es, ep, t, ho, hex, hd, _, _, _, hf, hn⟩ := hS
    have I2 : Inv X pins σ H1 { s1 with heap := h', toks := tk } := I1.kept hk
    rw [List.length_map] at hn
    exact call_len_set ho hex hd hf (by rw [hn]; omega) ⟨.int xs.length, H1, I2.tok _, ⟨_, by rw [hn]⟩, q1⟩
  rcases hq with hq | hq
  · rw [e0] at hq
    obtain ⟨its, r, pl, hz⟩ := I1.list hq
    exact set_of_list (I1.ok.hd hc) pl.isList (by simpa using strsAre_of r) (nodup_S hnd) room fun h' tk hS hk => fin h' tk hS hk
  · rw [e0] at hq
    obtain ⟨its, r, pl, hz⟩ := I1.tuple hq
    exact set_of_tuple (I1.ok.hd hc) pl (by simpa using strsAre_of r) (nodup_S hnd) room fun h' tk hS hk => fin h' tk hS hk
end
end LX
set_option maxHeartbeats 2000000
namespace LX
open PySem PySem.Spec PyProof.Rows L2 C8 SX
def SqB (K : PySem.W.Frag) (b : Bool) (H : Hp) (a : Addr) (xs : List V) : Prop := if b = true then SqL K H a xs else SqT K H a xs
def ItA (K : PySem.W.Frag) (b : Bool) (a : Addr) : It := if b = true then Itl K a else Itt K a
theorem SqB.or {K : PySem.W.Frag} {b : Bool} {H : Hp} {a : Addr} {xs : List V} (h : SqB K b H a xs) : SqL K H a xs ∨ SqT K H a xs := by
  cases b
  · exact .inr h
  · exact .inl h
theorem SqB.same {K : PySem.W.Frag} {b : Bool} {H H' : Hp} {a : Addr} {xs : List V} (h : SqB K b H a xs) (s : Same H H') : SqB K b H' a xs := by
  cases b
  · exact sm_seqT s h
  · exact s.seq h
theorem SqB.lst {K : PySem.W.Frag} {H : Hp} {a : Addr} {xs : List V} (h : H a = some (.lst xs)) : SqB K true H a xs := SqL.of h
theorem SqB.tup {K : PySem.W.Frag} {H : Hp} {a : Addr} {xs : List V} (h : H a = some (.tup xs)) : SqB K false H a xs := SqT.of h
def seqB (b : Bool) (xs : List V) : HO := if b = true then .lst xs else .tup xs
theorem SqB.of {K : PySem.W.Frag} {b : Bool} {H : Hp} {a : Addr} {xs : List V} (h : H a = some (seqB b xs)) : SqB K b H a xs := by
  cases b
  · exact SqB.tup h
  · exact SqB.lst h
theorem walk_seq {K : PySem.W.Frag} {b : Bool} {a : Addr} {xs : List V} : Walk (ItA K b a) xs.length (fun H => SqB K b H a xs) (YAt xs) := by
  cases b
  · exact walk_tup
  · exact walk_list
def iSeq (K : PySem.W.Frag) (tl : TE) : TI := fun σ H R => tl σ H fun x H1 => ∃ a b xs, x = .ref a ∧ SqB K b H1 a xs ∧ R (ItA K b a) H1
theorem pi_seq {X : Cx} {tg l : Expr} {tl : TE} (hl : PE X l tl) : PI X tg l (iSeq X.K tl) := by
  refine ⟨fun pins s σ H R I h => thn (hl.run pins s σ H _ I h) fun v s1 ⟨x, H1, I1, r1, a, b, xs, e, hq, q⟩ => ?_⟩
  subst e
  cases r1
  have new : ∀ c ∈ [s1.heap.objs.size], FpOk X pins H1 c := fun c hc => by
    rw [List.mem_singleton.mp hc]
    exact I1.fpOk (Nat.le_refl _) (I1.hok.fresh (Nat.le_refl _))
  cases b with
  | true =>
    obtain ⟨its, rv, p, hz⟩ := I1.list hq
    exact wpAny_pyIter_list p.isList ⟨s1.heap.objs.size, _, _, _, H1, rfl, I1.kept (t' := s1.toks) fun b o e => Heap.get?_push_of_some _ e, turn_list a _, ⟨_, Heap.get?_push_size _ rfl, rfl, rfl⟩, new, q⟩
  | false =>
    obtain ⟨its, rv, p, hz⟩ := I1.tuple hq
    exact wpAny_pyIter_tuple (show s1.heap.IsTuple a its.toArray from p) ⟨s1.heap.objs.size, _, _, _, H1, rfl, I1.kept (t' := s1.toks) fun b o e => Heap.get?_push_of_some _ e, turn_tuple a _, ⟨_, Heap.get?_push_size _ rfl, rfl, rfl⟩, new, q⟩
theorem pi_listK {X : Cx} {tg l : Expr} {tl : TE} (K : PySem.W.Frag) (hl : PE X l tl) (h : X.K = K := by rfl) : PI X tg l (iList K tl) := by subst h; exact pi_list hl
theorem pi_tupK {X : Cx} {tg l : Expr} {tl : TE} (K : PySem.W.Frag) (hl : PE X l tl) (h : X.K = K := by rfl) : PI X tg l (iTup K tl) := by subst h; exact pi_tup hl
theorem pi_seqK {X : Cx} {tg l : Expr} {tl : TE} (K : PySem.W.Frag) (hl : PE X l tl) (h : X.K = K := by rfl) : PI X tg l (iSeq K tl) := by subst h; exact pi_seq hl
def inS : Expr → Scope
  | .ListComp (.ListComp _ _ s _) _ _ _ => s
  | _ => { kind := .function, names := [], isGenerator := false, isCoroutine := false }
def outS : Expr → Scope
  | .ListComp _ _ s _ => s
  | _ => { kind := .function, names := [], isGenerator := false, isCoroutine := false }
def ofRet : Stmt → Expr
  | .Return (some e) _ => e
  | .Assign _ e _ => e
  | _ => .Constant .none 0 ⟨0, 0, 0, 0⟩
theorem tuple_of {K : PySem.W.Frag} {b : Bool} {H : Hp} {a : Addr} {xs : List V} {Q : VK} (h : SqB K b H a xs) (q1 : ∀ l, H l = none → Q (.ref l) (upd H l (.tup xs))) (q2 : b = false → Q (.ref a) H) :
    (SqL K H a xs ∧ ∀ l, H l = none → Q (.ref l) (upd H l (.tup xs))) ∨ (SqT K H a xs ∧ Q (.ref a) H) := by
  cases b
  · exact .inr ⟨h, q2 rfl⟩
  · exact .inl ⟨h, q1⟩
theorem tupA {K : PySem.W.Frag} {b : Bool} {H : Hp} {a : Addr} {xs : List V} {Q : VK} (h : H a = some (seqB b xs)) (k : ∀ l H', Same H H' → H' l = some (.tup xs) → (b = false → l = a) → (b = true → H l = none) → Q (.ref l) H') :
    (SqL K H a xs ∧ ∀ l, H l = none → Q (.ref l) (upd H l (.tup xs))) ∨ (SqT K H a xs ∧ Q (.ref a) H) := by
  cases b
  · exact .inr ⟨SqT.of h, k a H (Same.refl H) h (fun _ => rfl) (fun h => nomatch h)⟩
  · exact .inl ⟨SqL.of h, fun l hl => k l _ (sm_new hl) upd_same (fun h => nomatch h) (fun _ => hl)⟩
theorem tCB_tup {K : PySem.W.Frag} {b : Bool} {i : Nat} {σ : L2.St} {H : Hp} {a : Addr} {xs : List V} {Q : VK} (hv : σ[i]? = some (some (.ref a))) (h : H a = some (seqB b xs)) (k : ∀ l H', Same H H' → H' l = some (.tup xs) → (b = false → l = a) → (b = true → H l = none) → Q (.ref l) H') :
    tCB (fun xs H Q => ∃ p ys, xs = [.ref p] ∧ ((SqL K H p ys ∧ ∀ l, H l = none → Q (.ref l) (upd H l (.tup ys))) ∨ (SqT K H p ys ∧ Q (.ref p) H))) (tCons (tVar i) tNil) σ H Q :=
  ⟨_, hv, a, xs, rfl, tupA (Q := Q) h k⟩
theorem eqV_S {x y : List Nat} : eqV (.str (S x)) (.str (S y)) = decide (x = y) := by
  show (S x == S y) = _
  by_cases e : x = y
  · subst e; simp
  · have : S x ≠ S y := fun h => e (by have : (S x).cps.toList = (S y).cps.toList := congrArg (fun z : Str => z.cps.toList) h; simpa [S] using this)
    rw [decide_eq_false e]; simpa using this
theorem flat_txs (xs : List (List Nat)) : (txs xs).all flatV = true := by
  unfold txs; rw [List.all_map]; exact List.all_eq_true.mpr fun _ _ => rfl
theorem inV_txs {x : List Nat} {xs : List (List Nat)} : inV (.str (S x)) (txs xs) = decide (x ∈ xs) := by
  unfold inV txs
  induction xs with
  | nil => rfl
  | cons y ys ih =>
    rw [List.map_cons, List.any_cons, ih]
    show (eqV (.str (S y)) (.str (S x)) || _) = _
    rw [eqV_S]
    by_cases e : y = x <;> by_cases e2 : x ∈ ys <;> simp [e, e2]
    · intro h; exact absurd h.symm e
theorem dictZipK {X : Cx} (K : PySem.W.Frag) {e e2 : Expr} {ta : TA} {p p2 pos pos2 : Pos} (hc : X.calm = true) (hgd : Gl X "dict") (hmd : X.mg "dict" = none) (hg : Gl X "zip") (hm : X.mg "zip" = none) (ha : PA X [e, e2] ta) (h : X.K = K := by rfl)
    (hs : starEach [e, e2] X.env = (false, eval e X.env) :: starEach [e2] X.env := by rfl) (hpl : (backTo pos2 (starEach [e2] X.env)).any (·.1) = false := by rfl)
    (hs' : starEach [.Call (.Name "zip" p2) [e, e2] [] pos2] X.env = (false, eval (.Call (.Name "zip" p2) [e, e2] [] pos2) X.env) :: starEach [] X.env := by rfl) (hpl' : (backTo pos (starEach [] X.env)).any (·.1) = false := by rfl) :
    PE X (.Call (.Name "dict" p) [.Call (.Name "zip" p2) [e, e2] [] pos2] [] pos) (tDictZip K ta) := by subst h; exact pe_dictZip hc hgd hmd hg hm ha hs hpl hs' hpl'
end LX
set_option maxHeartbeats 2000000
namespace LX
open PySem PySem.Spec PyProof.Rows L2 C8 SX NdefX
noncomputable def upB (h base : Heap) (cs : List Addr) : Heap := hidT h fun b => if (base.get? b).isSome = true ∨ b ∈ cs then none else some (.lst [])
theorem upB_get {h base : Heap} {cs : List Addr} {b : Addr} {o : Obj} (e : h.get? b = some o) (n : (base.get? b).isSome = true ∨ b ∈ cs) : (upB h base cs).get? b = some o := hidT_get e (if_pos n)
theorem of_upB {h base : Heap} {cs : List Addr} {b : Addr} {o : Obj} (e : (upB h base cs).get? b = some o) : h.get? b = some o ∧ ((base.get? b).isSome = true ∨ b ∈ cs) := by
  obtain ⟨e1, e2⟩ := of_hidT e
  refine ⟨e1, ?_⟩
  by_cases n : (base.get? b).isSome = true ∨ b ∈ cs
  · exact n
  · have e2 : (if (base.get? b).isSome = true ∨ b ∈ cs then none else some (HO.lst [])) = none := e2
    rw [if_neg n] at e2; cases e2
structure BCells (cl : List (Str × Addr)) (fr : List Str) (ws : List (Option V)) (base : Heap) : Prop where
  len : ws.length = fr.length
  all : ∀ y c, cl.lookup y = some c → ∃ v, base.IsCell c v
  inj : ∀ x y c, cl.lookup x = some c → cl.lookup y = some c → x = y
  has : ∀ (i : Nat) (y : Str), fr[i]? = some y → ∃ c, cl.lookup y = some c ∧ ∀ v, ws[i]? = some (some v) → ∃ u, RelV v u ∧ base.IsCell c (some u)
theorem BCells.at_ {cl : List (Str × Addr)} {fr : List Str} {ws : List (Option V)} {base : Heap} (b : BCells cl fr ws base) {h : Heap} {H : Hp} (bs : ∀ b o, base.get? b = some o → h.get? b = some o ∧ H b = none) : CellsAt cl fr ws h H :=
  ⟨b.len, fun y c e => let ⟨v, o, e1, e2⟩ := b.all y c e; ⟨(bs _ _ e1).2, v, o, (bs _ _ e1).1, e2⟩, b.inj, fun i y e => let ⟨c, e1, f⟩ := b.has i y e; ⟨c, e1, fun v hv => let ⟨u, r, o, e2, e3⟩ := f v hv; ⟨u, r, o, (bs _ _ e2).1, e3⟩⟩⟩
section
variable {X : Cx} {pins : List (Addr × Obj)} {σ : L2.St} {H : Hp} {s : Shared}
theorem funs_up {h base : Heap} {cs : List Addr} : ∀ {l : List Env}, h.FunFrames base l → (∀ b ∈ frs l, b ∉ cs) → h.FunFrames (upB h base cs) l
  | [], _, _ => trivial
  | env :: rest, ⟨a, ⟨L, o, e1, e2, e3, e4⟩, r⟩, n => by
    have hm : L ∈ frs (env :: rest) := by unfold frs; rw [List.filterMap_cons, e1]; exact List.mem_cons_self
    refine ⟨a, ⟨L, o, e1, ?_, e3, e4⟩, funs_up r fun b hb => n b ?_⟩
    · cases q : (upB h base cs).get? L with
      | none => rfl
      | some o' =>
        rcases (of_upB q).2 with z | z
        · rw [e2] at z; cases z
        · exact absurd z (n L hm)
    · unfold frs at hb ⊢; rw [List.filterMap_cons, e1]; exact List.mem_cons_of_mem _ hb
theorem env_up (I : Inv X pins σ H s) {cs : List Addr} (hc : ∀ c ∈ cs, ∃ x, X.env.cells.lookup x = some c ∧ X.fn x = true) : Env0 X.prog X.w X.K X.mg (upB s.heap X.base cs) X.A X.stack s H := by
  have e0 := I.env0
  have k : ∀ b o, X.base.get? b = some o → (upB s.heap X.base cs).get? b = some o := fun b o e => upB_get (e0.bs b o e).1 (.inl (by rw [e]; rfl))
  obtain ⟨mb, b1, b2⟩ := e0.mod.blt
  refine ⟨e0.frames, ⟨fun b o e => k b o (e0.mod.kin b o e), e0.mod.glob.keeps k, ⟨mb, b1.keeps k, b2⟩, e0.mod.nolimit.keeps k⟩, fun b o e => ?_, Nat.le_of_eq (hidT_size _ _), funs_up e0.funs fun L hL hm => ?_, e0.frf, e0.hok, e0.bare⟩
  · obtain ⟨e1, n⟩ := of_upB e
    refine ⟨e1, ?_⟩
    rcases n with n | n
    · obtain ⟨o', q⟩ := Option.isSome_iff_exists.mp n
      exact (e0.bs b o' q).2
    · obtain ⟨x, hx, _⟩ := hc b n
      exact I.freeC x b hx
  · obtain ⟨x, hx, hf⟩ := hc L hm
    have above := I.ok.cab x L hf hx
    have out : ∀ l : List Env, X.s_0.heap.FunFrames X.base l → L ∈ frs l → False := fun l => by
      induction l with
      | nil => intro _ h; simp [frs] at h
      | cons env rest ih =>
        rintro ⟨_, ⟨M, o, e1, _, e3, _⟩, r⟩ h
        unfold frs at h; rw [List.filterMap_cons, e1] at h
        rcases List.mem_cons.mp h with z | z
        · have := Heap.lt_size e3
          rw [← z] at this
          exact Nat.lt_irrefl _ (Nat.lt_of_lt_of_le this above)
        · exact ih r z
    rcases I.ok.stk with e | ⟨e, ef⟩
    · rw [e] at hL; exact out _ I.ok.funs hL
    · rw [e] at hL
      unfold frs at hL; rw [List.filterMap_cons, ef] at hL
      rcases List.mem_cons.mp hL with z | z
      · obtain ⟨m, ⟨o, es, ep, e1, e2, _⟩, _⟩ := I.loc
        obtain ⟨v, o', q1, q2⟩ := I.cell x L hx
        rw [z, e1] at q1
        cases q1
        rw [e2] at q2; cases q2
      · exact out _ I.ok.funs z
theorem cells_up (I : Inv X pins σ H s) {cl : List (Str × Addr)} {fr : List Str} {js : List Nat} (c : Caps X cl fr js) : BCells cl fr (js.map (slotAt σ)) (upB s.heap X.base (cl.map (·.2))) := by
  have C := cells_of I c
  have mem : ∀ {y : Str} {a : Addr}, cl.lookup y = some a → a ∈ cl.map (·.2) := fun {y a} h => by
    obtain ⟨l1, l2, e, _⟩ := List.lookup_eq_some_iff.mp h
    rw [e]; simp
  refine ⟨C.len, fun y a e => ?_, C.inj, fun i y e => ?_⟩
  · obtain ⟨_, v, o, e1, e2⟩ := C.all y a e
    exact ⟨v, o, upB_get e1 (.inr (mem e)), e2⟩
  · obtain ⟨a, e1, f⟩ := C.has i y e
    exact ⟨a, e1, fun v hv => let ⟨u, r, o, e2, e3⟩ := f v hv; ⟨u, r, o, upB_get e2 (.inr (mem e1)), e3⟩⟩
def tUp (S : List (Option V) → Sp → Prop) (js : List Nat) (t : TA) : TE := fun σ H Q => t σ H fun vs H1 => ∃ sp, S (js.map (slotAt σ)) sp ∧ sp vs H1 Q C8.E0
theorem pe_cUp {k j : Nat} {g : Addr} {x : Str} {p pos : Pos} {e : Expr} {es : List Expr} {t : TA} {cl : List (Str × Addr)} {fr : List Str} {js : List Nat} {S : List (Option V) → Sp → Prop} (named : X.mg x = some (.ref g)) (kept : PySem.W.keepIn X.K (.ref g) = true)
    (cp : X.Ok → Caps X cl fr js) (hfn : ∀ y c, cl.lookup y = some c → X.fn y = true)
    (hS : ∀ ws sp (base' : Heap), S ws sp → X.K.In base' → base'.Ns mainGlobals X.mg → BCells cl fr ws base' → Cal X.prog X.w X.K X.mg base' k x sp []) (room : Room j X.A) (hk : k ≤ j) (hg : Gl X x) (ha : PA X (e :: es) t) (nd : cl.map (·.1) |>.Nodup) (hdb : (x == ("__debug__" : Str)) = false := by decide)
    (he : starEach (e :: es) X.env = (false, eval e X.env) :: starEach es X.env := by rfl) (hpl : (backTo pos (starEach es X.env)).any (·.1) = false := by rfl) : PE X (.Call (.Name x p) (e :: es) [] pos) (tUp S js t) := by
  constructor
  intro pins s σ H Q I want
  refine wpAny_Call_Name_kw (ld_glob I hg named ?_ hdb)
  refine PySem.W.callWith_K (h₀ := X.base) I.ok.mod.kin kept (thn (ha.run pos pins s σ H _ I want) ?_) he hpl
  rintro us s1 ⟨vs, H1, I1, rel, sp, s0, q⟩
  refine ⟨I1.kIn, ?_⟩
  have C := cp I1.ok
  have hcs : ∀ c ∈ cl.map (·.2), ∃ x, X.env.cells.lookup x = some c ∧ X.fn x = true := fun c hc => by
    obtain ⟨⟨y, c'⟩, hm, rfl⟩ := List.mem_map.mp hc
    have hl : cl.lookup y = some c' := by
      clear C hfn hS cp
      induction cl with
      | nil => cases hm
      | cons a r ih =>
        obtain ⟨z, d⟩ := a
        rw [List.map_cons, List.nodup_cons] at nd
        rcases List.mem_cons.mp hm with h | h
        · cases h; exact List.lookup_cons_self ..
        · have hne : (y == z) = false := by
            refine beq_eq_false_iff_ne.mpr fun e => nd.1 ?_
            rw [← e]; exact List.mem_map_of_mem (f := (·.1)) h
          rw [List.lookup_cons, hne]
          exact ih nd.2 h (List.mem_map_of_mem (f := (·.2)) h)
    exact ⟨y, C.sub y c' hl, hfn y c' hl⟩
  have E1 := env_up I1 hcs
  obtain ⟨f, fd, ps, ds, F, named', _, bd, dv⟩ := (hS _ sp _ s0 E1.mod.kin E1.mod.glob (cells_up I1 C)).ex
  rw [named] at named'
  cases named'
  cases dv
  have count : (us ++ []).length = ps.length := by rw [List.append_nil, ← rel.length]; exact F.len _ _ _ _ q
  have bs := bd s1 us I1.kIn count
  rw [List.append_nil] at bs
  refine wpAny_call (codeAny_mono (F.run X.A X.stack s1 H1 ⟨us, []⟩ us vs Q C8.E0 (room.mono hk) E1 bs rel q) fun r t' got => ?_)
  match r, got with
  | .ok (.ret u), got => exact I1.after got
end
def CV (P : Program) (w : World) (K : PySem.W.Frag) (mg : Str → Option Value) (base : Heap) (k : Nat) (g : Addr) (tr : Hp → Prop) (sp : Sp) : Prop :=
  Held P w K mg base k g sp ∨
    ∃ (F : NF) (ps fr : List Str) (ws : List (Option V)) (nsp : List (Option V) → Sp), NOk P w K mg base C8.CX0 k g F ps fr nsp ∧ (∀ vs H Q, tr H → sp vs H Q C8.E0 → nsp ws vs H Q C8.E0) ∧ BCells F.cl fr ws base ∧ ∀ H, tr H → H g = some (FnO g F) ∧ H F.c = some (LamX.CodeO F.c F.qual)
def tCallV (i : Nat) (g : Addr) (tr : Hp → Prop) (sp : Sp) (t : TA) : TE := fun σ H Q => σ[i]? = some (some (.ref g)) ∧ tr H ∧ t σ H fun vs H1 => tr H1 ∧ sp vs H1 Q C8.E0
theorem pe_callV {X : Cx} {k j i : Nat} {g : Addr} {tr : Hp → Prop} {sp : Sp} {x : Str} {p pos : Pos} {e : Expr} {es : List Expr} {t : TA} (c : CV X.prog X.w X.K X.mg X.base k g tr sp) (room : Room j X.A) (hk : k ≤ j) (hN : X.N[i]? = some x) (hv : Vis X.env.scope x) (ha : PA X (e :: es) t)
    (hd : (x == ("__debug__" : Str)) = false := by decide) (hcd : (x == ("__classdict__" : Str)) = false := by decide)
    (he : starEach (e :: es) X.env = (false, eval e X.env) :: starEach es X.env := by rfl) (hpl : (backTo pos (starEach es X.env)).any (·.1) = false := by rfl) : PE X (.Call (.Name x p) (e :: es) [] pos) (tCallV i g tr sp t) := by
  constructor
  rintro pins s σ H Q I ⟨hs, ht, want⟩
  rcases c with ⟨fd, ps, F, kept, bd⟩ | ⟨F, ps, fr, ws, nsp, N, hsp, B, htr⟩
  · have F' : FnOk X.prog X.w X.K X.mg X.base (fun _ _ _ _ _ _ => False) k g fd ps (fun vs H Q E => tr H ∧ sp vs H Q E) := F.imp fun _ _ _ _ q => q.2
    refine (pe_callL (i := i) (dvs := []) (E := fun _ _ _ => False) F' (room.mono hk) hN hv kept bd .nil (fun _ _ _ _ _ _ _ z => z.elim) ha hd hcd he hpl).run pins s σ H Q I ⟨hs, ?_⟩
    have e0 : (fun (vs : List V) (H1 : Hp) => tr H1 ∧ sp (vs ++ []) H1 Q fun _ _ _ => False) = fun vs H1 => tr H1 ∧ sp vs H1 Q C8.E0 := by funext vs H1; rw [List.append_nil]; rfl
    show t σ H fun vs H1 => tr H1 ∧ sp (vs ++ []) H1 Q fun _ _ _ => False
    rw [e0]; exact want
  · refine wpAny_Call_Name_kw (thn ((pe_var (pos := p) hN hv hd hcd).run pins s σ H (fun v H1 => v = .ref g ∧ H1 = H) I ⟨.ref g, hs, rfl, rfl⟩) fun u s1 ⟨v, H1, I1, r1, ev, eH⟩ => ?_)
    subst ev
    rw [eH] at I1
    obtain rfl : u = Value.ref g := r1
    refine PySem.W.callWith_F (first := []) (fnAt_of I1 (htr H ht).1) (thn (ha.run pos pins s1 σ H _ I1 want) fun us s2 ⟨vs, H2, I2, r, h1, q⟩ => ⟨fnAt_of I2 (htr H2 h1).1, ?_⟩) he hpl
    refine wpAny_call (codeAny_mono (N.run X.A X.stack s2 H2 us vs ws Q C8.E0 (room.mono hk) I2.env0 (htr H2 h1).1 (htr H2 h1).2 (B.at_ I2.env0.bs) r (hsp vs H2 Q h1 q)) fun r t' got => ?_)
    match r, got with
    | .ok (.ret u), got => exact I2.after got
theorem calC {P : Program} {w : World} {K : PySem.W.Frag} {mg : Str → Option Value} {base : Heap} {x : Str} {st : Stmt} {f : Addr} {fd : FuncData} {N ps : List Str} {ds : List Value} {dvs : List V} {k : Nat} {sp : Sp} {cdv : Value} (F : C8.Def K mg x st f fd) (hc : fd.code = cdv) (b : Binds K fd ps ds) (d : Vals dvs ds) (S : FnScope N ps (C8.fnScope st)) (len : ∀ vs H Q E, sp vs H Q E → vs.length = ps.length)
    (hbody : ∀ (A : Around) (outer : List Env) (s : Shared) (H : Hp) (vs : List V) (Q : VK) (E : XK), Room k (A.deeper (envOfC x (C8.fnScope st) s.heap.objs.size f cdv)) → sp vs H Q E →
      ∃ t, PSs (cxOf C8.CX0 P w K mg base N x (C8.fnScope st) f cdv A outer s H E).nox (C8.fnBody st) t ∧ t { nx := fun _ H' => Q .non H', rt := Q } (start N vs) H) : C8.Cal P w K mg base (k + 1) x sp dvs := by
  refine ⟨f, fd, ps, ds, ?_, F.mgf, F.kp, b, d⟩
  obtain ⟨oc, od, dV, kV, doc, pm, an, cdv', ct, osl, rfl, lk, hcd⟩ := F.fn.ex
  obtain rfl : cdv' = cdv := hc
  refine fn_of lk hcd S len fun A outer s H vs Q E hr hsp => ?_
  obtain ⟨t, h, q⟩ := hbody A outer s H vs Q E hr hsp
  exact ⟨t, h.nox, q⟩
end LX
set_option maxHeartbeats 2000000
namespace LX
open PySem PySem.Spec PyProof.Rows L2 C8 SX NdefX
def takenN (ok : Nat → Bool) (n : Nat) : List Nat := (List.range n).filter ok
theorem takenN_yes {ok : Nat → Bool} {n : Nat} (h : ok n = true) : takenN ok (n + 1) = takenN ok n ++ [n] := by
  unfold takenN; rw [List.range_succ, List.filter_append, List.filter_cons_of_pos h]; rfl
theorem takenN_no {ok : Nat → Bool} {n : Nat} (h : ok n = false) : takenN ok (n + 1) = takenN ok n := by
  unfold takenN; rw [List.range_succ, List.filter_append, List.filter_cons_of_neg (by rw [h]; exact Bool.false_ne_true)]; exact List.append_nil _
theorem takenN_le {ok : Nat → Bool} {n : Nat} : (takenN ok n).length ≤ n := by
  unfold takenN
  exact Nat.le_trans (List.length_filter_le _ _) (by rw [List.length_range]; exact Nat.le_refl _)
theorem lc_keepF {Rel : Hp → Hp → Prop} {J : It} {n : Nat} {G : Hp → Prop} {Y : Nat → Hp → V → Hp → Prop} {H1 : Hp} (kp : Keep Rel H1) (w : Walk J n G Y) {g : TG} {tt : TT} {te : TE} {vs : List Nat} {σ : L2.St} {D : Addr} {Qd : Hp → Prop} (hD : H1 D = none) (hn : n < sizeLine)
    (ok : Nat → Bool) (Good : Nat → V → Hp → Prop) (hG : ∀ H, Rel H1 H → G H)
    (st : ∀ i y H H', Rel H1 H → Rel H H' → Good i y H → Good i y H') (pt : ∀ i y H acc o, Rel H1 H → H D = some (.lst acc) → Good i y H → Good i y (upd H D o))
    (hs : ∀ i x H H' acc (N : Hp → Prop) (R : V → Hp → Prop), i < n → Rel H1 H → H D = some (.lst acc) → Y i H x H' → (ok i = true → ∀ y H4, Rel H H4 → Good i y H4 → R y H4) → (ok i = false → ∀ H4, Rel H H4 → N H4) →
      g x (wipe σ vs) H' fun σ2 H2 => wipe σ2 vs = wipe σ vs ∧ tt σ2 H2 fun b H3 => if b = true then te σ2 H3 R else N H3)
    (hd : ∀ ys H, ys.length = (takenN ok n).length → (∀ (j k : Nat) y, (takenN ok n)[j]? = some k → ys[j]? = some y → Good k y H) → Rel H1 H → H D = some (.lst ys) → Qd H) :
    ∃ W : Nat → Nat → Hp → Prop, (∃ m, W 0 m (upd H1 D (.lst []))) ∧ ∀ i m H, W i m H →
      (J.stop i H ∧ Qd H) ∨ (J.go i H ∧ ∃ Nx : Hp → Prop, (∀ H', Nx H' → ∃ m', m' < m ∧ W (i + 1) m' H') ∧ ∀ x H', J.yld i H x H' → g x (wipe σ vs) H' fun σ2 H2 => wipe σ2 vs = wipe σ vs ∧ tt σ2 H2 fun b H3 =>
        if b = true then te σ2 H3 fun y H4 => ∃ acc, H4 D = some (.lst acc) ∧ acc.length < sizeLine ∧ Nx (upd H4 D (.lst (acc ++ [y]))) else Nx H3) := by
  refine lc_it w (fun i H => ∃ acc, acc.length = (takenN ok i).length ∧ H D = some (.lst acc) ∧ Rel H1 H ∧ ∀ (j k : Nat) y, (takenN ok i)[j]? = some k → acc[j]? = some y → Good k y H) ⟨[], rfl, upd_same, kp.put _ _ _ kp.refl hD, fun j k y _ e => by simp at e⟩
    (fun i H _ ⟨_, _, _, r, _⟩ => hG H r) (fun i x H H' hi ⟨acc, hl, hDa, r, hg⟩ hy => ?_) (fun H ⟨acc, hl, hDa, r, hg⟩ => hd acc H hl hg r hDa)
  have hle := takenN_le (ok := ok) (n := i)
  refine hs i x H H' acc _ _ hi r hDa hy (fun ho y H4 r4 gy => ?_) (fun ho H4 r4 => ?_)
  · have hD4 := kp.get _ _ _ _ r4 hD r hDa
    have r5 := kp.trans _ _ r r4
    refine ⟨acc, hD4, by omega, acc ++ [y], by rw [takenN_yes ho]; simp [hl], upd_same, kp.put _ _ _ r5 hD, fun j k z ek e => ?_⟩
    rw [takenN_yes ho] at ek
    rcases Nat.lt_or_ge j acc.length with h | h
    · rw [List.getElem?_append_left h] at e
      rw [List.getElem?_append_left (by omega)] at ek
      exact pt _ _ _ _ _ r5 hD4 (st _ _ _ _ r r4 (hg j k z ek e))
    · rw [List.getElem?_append_right h] at e
      rw [List.getElem?_append_right (by omega)] at ek
      have hj : j - acc.length = 0 := by
        rcases Nat.lt_or_ge (j - acc.length) 1 with z | z
        · omega
        · rw [List.getElem?_eq_none (by simpa using z)] at e; cases e
      have hj2 : j - (takenN ok i).length = 0 := by omega
      rw [hj] at e; rw [hj2] at ek
      obtain rfl : y = z := Option.some.inj e
      obtain rfl : i = k := Option.some.inj ek
      exact pt _ _ _ _ _ r5 hD4 gy
  · have hD4 := kp.get _ _ _ _ r4 hD r hDa
    exact ⟨acc, by rw [takenN_no ho]; exact hl, hD4, kp.trans _ _ r r4, fun j k y ek e => by rw [takenN_no ho] at ek; exact st _ _ _ _ r r4 (hg j k y ek e)⟩
end LX
set_option maxHeartbeats 2000000
namespace LX
open PySem PySem.Spec PyProof.Rows L2 C8 SX
theorem S_contains (sg : List Nat) (c : Nat) : (S sg).cps.contains c = decide (c ∈ sg) := by
  rw [Bool.eq_iff_iff, decide_eq_true_eq, ← Array.contains_toList]
  simp [S]
theorem S_empty {l : List Nat} : S l = S [] ↔ l = [] := by
  constructor
  · intro h
    have : (S l).cps.toList = (S []).cps.toList := congrArg (fun z : Str => z.cps.toList) h
    simpa [S] using this
  · rintro rfl; rfl
theorem takeWhile_all {p : Nat → Bool} : ∀ {l : List Nat}, (∀ c ∈ l, p c = true) → l.takeWhile p = l
  | [], _ => rfl
  | c :: l, h => by rw [List.takeWhile_cons, if_pos (h c List.mem_cons_self), takeWhile_all fun d hd => h d (List.mem_cons_of_mem _ hd)]
theorem takeWhile_short {p : Nat → Bool} : ∀ {l : List Nat}, ¬ (∀ c ∈ l, p c = true) → (l.takeWhile p).length < l.length ∧ ∃ d r, l.drop (l.takeWhile p).length = d :: r ∧ p d = false
  | [], h => absurd (fun _ h => nomatch h) h
  | c :: l, h => by
    by_cases hc : p c = true
    · have h' : ¬ ∀ c ∈ l, p c = true := fun q => h fun d hd => by
        rcases List.mem_cons.mp hd with rfl | z
        · exact hc
        · exact q d z
      obtain ⟨i1, d, r, i2, i3⟩ := takeWhile_short h'
      rw [List.takeWhile_cons, if_pos hc]
      exact ⟨Nat.succ_lt_succ i1, d, r, i2, i3⟩
    · rw [List.takeWhile_cons, if_neg hc]
      exact ⟨Nat.succ_pos _, c, l, rfl, by simpa using hc⟩
theorem strip_nil {l sg : List Nat} : Txt.stripChars (S l) (S sg) = S [] ↔ ∀ c ∈ l, c ∈ sg := by
  unfold Txt.stripChars Txt.stripBy stripSame stripped stripLo stripHi
  have eg : (S sg).cps.contains = fun c => decide (c ∈ sg) := funext fun c => S_contains sg c
  have el : (S l).cps.toList = l := rfl
  have en : (S l).length = l.length := S_len l
  rw [eg, if_pos rfl, if_pos rfl, el, en]
  generalize hp : (fun c => decide (c ∈ sg)) = p
  have hpc : ∀ c, p c = true ↔ c ∈ sg := fun c => by rw [← hp]; exact decide_eq_true_iff
  by_cases h : ∀ c ∈ l, p c = true
  · refine ⟨fun _ c hc => (hpc c).mp (h c hc), fun _ => ?_⟩
    rw [takeWhile_all h, List.drop_length, List.reverse_nil, List.takeWhile_nil, List.length_nil, Nat.sub_zero]
    by_cases e : l = []
    · subst e; rfl
    · have : l.length ≠ 0 := fun z => e (List.length_eq_zero_iff.mp z)
      rw [if_neg (by simpa using this)]
      show (⟨(S l).cps.extract l.length l.length⟩ : Str) = S []
      simp [S]
  · obtain ⟨i1, d, r, i2, i3⟩ := takeWhile_short h
    refine ⟨fun e => absurd e ?_, fun q => absurd (fun c hc => (hpc c).mpr (q c hc)) h⟩
    rw [i2]
    have hr : ¬ ∀ c ∈ (d :: r).reverse, p c = true := fun q => by have := q d (by simp); rw [i3] at this; cases this
    have j1 := (takeWhile_short hr).1
    have hlen : (d :: r).length = l.length - (l.takeWhile p).length := by rw [← i2, List.length_drop]
    rw [List.length_reverse] at j1
    by_cases same : ((l.takeWhile p).length == 0 && l.length - ((d :: r).reverse.takeWhile p).length == l.length) = true
    · rw [if_pos same]
      intro e
      have := S_empty.mp e
      subst this
      exact absurd i1 (by simp)
    · rw [if_neg same]
      intro e
      have e2 : ((S l).cps.extract (l.takeWhile p).length (l.length - ((d :: r).reverse.takeWhile p).length)).size = 0 := by
        have : (Builtin.Str.strSub (S l) (l.takeWhile p).length (l.length - ((d :: r).reverse.takeWhile p).length)).cps = (S []).cps := by rw [e]
        rw [show (S l).cps.extract (l.takeWhile p).length (l.length - ((d :: r).reverse.takeWhile p).length) = (S []).cps from this]; rfl
      rw [Array.size_extract] at e2
      have e3 : (S l).cps.size = l.length := by simp [S]
      rw [e3] at e2
      omega
theorem strip_eq {l sg : List Nat} : decide (Txt.stripChars (S l) (S sg) = S []) = decide (∀ c ∈ l, c ∈ sg) := decide_eq_decide.mpr strip_nil
def az : List Nat := (List.range 26).map (· + 97)
theorem az_mem {c : Nat} : c ∈ az ↔ 97 ≤ c ∧ c ≤ 122 := by
  unfold az
  rw [List.mem_map]
  constructor
  · rintro ⟨i, hi, rfl⟩
    have := List.mem_range.mp hi
    omega
  · rintro ⟨h1, h2⟩
    exact ⟨c - 97, List.mem_range.mpr (by omega), by omega⟩
theorem s_az : (Str.ofString "abcdefghijklmnopqrstuvwxyz") = S az := by decide +kernel
end LX
set_option maxHeartbeats 2000000
namespace LX
open PySem PySem.Spec PyProof.Rows L2 C8 SX
def outD : Expr → Scope
  | .DictComp _ _ _ s _ => s
  | _ => { kind := .function, names := [], isGenerator := false, isCoroutine := false }
end LX
set_option maxHeartbeats 2000000
namespace LX
open PySem PySem.Spec PyProof.Rows L2 C8 SX
structure Fit (k n : Nat) (d : PyData) : Prop where
  lay : d.canLay0 = true
  int : d.intsShort 13 = true
  sho : d.showable = true
  dep : d.depth ≤ k
  wei : d.weight ≤ n
theorem Fit.mono {k n k' n' : Nat} {d : PyData} (f : Fit k n d) (hk : k ≤ k') (hn : n ≤ n') : Fit k' n' d := ⟨f.lay, f.int, f.sho, Nat.le_trans f.dep hk, Nat.le_trans f.wei hn⟩
theorem Fit.text {k n : Nat} {l : List Nat} (h : ∀ c ∈ l, c < 1114112) (hn : l.length ≤ n) : Fit k n (.str (S l)) := by
  refine ⟨?_, rfl, rfl, Nat.zero_le _, by simpa [PyData.weight, S] using hn⟩
  show (S l).cps.all (· < 0x110000) = true
  rw [← Array.all_toList, List.all_eq_true]
  exact fun c hc => decide_eq_true (h c hc)
theorem Fit.non {k n : Nat} : Fit k n .none := ⟨rfl, rfl, rfl, Nat.zero_le _, Nat.zero_le _⟩
theorem Fit.bl {k n : Nat} {b : Bool} : Fit k n (.bool b) := ⟨rfl, rfl, rfl, Nat.zero_le _, Nat.zero_le _⟩
theorem Fit.all {k n : Nat} : ∀ {ds : List PyData}, (∀ d ∈ ds, Fit k n d) → PyData.canLayAll0 ds = true ∧ PyData.intsShortAll 13 ds = true ∧ PyData.showableAll ds = true ∧ PyData.depthAll ds ≤ k + 1 ∧ PyData.weightAll ds ≤ ds.length * (n + 1)
  | [], _ => ⟨rfl, rfl, rfl, Nat.zero_le _, Nat.zero_le _⟩
  | d :: ds, h => by
    obtain ⟨h1, h2, h3, h4, h5⟩ := Fit.all (ds := ds) fun x hx => h x (List.mem_cons_of_mem _ hx)
    have f := h d List.mem_cons_self
    refine ⟨?_, ?_, ?_, ?_, ?_⟩
    · show (d.canLay0 && PyData.canLayAll0 ds) = true; rw [f.lay, h1]; rfl
    · show (d.intsShort 13 && PyData.intsShortAll 13 ds) = true; rw [f.int, h2]; rfl
    · show (d.showable && PyData.showableAll ds) = true; rw [f.sho, h3]; rfl
    · have e : PyData.depthAll (d :: ds) = max d.depth (PyData.depthAll ds) ∨ PyData.depthAll (d :: ds) ≤ max (d.depth + 1) (PyData.depthAll ds) := by
        first | exact .inl rfl | exact .inr (by unfold PyData.depthAll; omega)
      have := f.dep
      rcases e with e | e
      · rw [e]; omega
      · omega
    · show d.weight + 1 + PyData.weightAll ds ≤ _
      have := f.wei
      rw [List.length_cons, Nat.add_mul]
      omega
theorem Fit.tup {k n m : Nat} {ds : List PyData} (h : ∀ d ∈ ds, Fit k n d) (hm : ds.length ≤ m) : Fit (k + 2) (m * (n + 1)) (.tuple ds) := by
  obtain ⟨h1, h2, h3, h4, h5⟩ := Fit.all h
  refine ⟨h1, h2, h3, ?_, Nat.le_trans h5 (Nat.mul_le_mul_right _ hm)⟩
  show PyData.depthAll ds + 1 ≤ _
  omega
theorem Fit.lst {k n m : Nat} {ds : List PyData} (h : ∀ d ∈ ds, Fit k n d) (hm : ds.length ≤ m) : Fit (k + 2) (m * (n + 1)) (.list ds) := by
  obtain ⟨h1, h2, h3, h4, h5⟩ := Fit.all h
  refine ⟨h1, h2, h3, ?_, Nat.le_trans h5 (Nat.mul_le_mul_right _ hm)⟩
  show PyData.depthAll ds + 1 ≤ _
  omega
theorem Fit.size {k n : Nat} {d : PyData} (f : Fit k n d) (hn : n ≤ 1000000) : d.shown.length ≤ sizeLine := by
  have h := PyData.shown_le 13 (by decide) d (PyData.leavesShort_of_canLay0 13 d f.lay f.int)
  have := f.wei
  have e : sizeLine = 16777216 := rfl
  omega
theorem Fit.shaped {k n : Nat} {d : PyData} (f : Fit k n d) (hk : k ≤ 60) (h : (∃ ds, d = .tuple ds) ∨ ∃ ds, d = .list ds) : SeqAt.shaped d = true := by
  rcases h with ⟨ds, rfl⟩ | ⟨ds, rfl⟩
  · show (PyData.canLayAll0 ds && decide (PyData.depthAll ds + 1 ≤ 64)) = true
    have h1 : PyData.canLayAll0 ds = true := f.lay
    have h2 : PyData.depthAll ds + 1 ≤ k := f.dep
    rw [h1, Bool.true_and, decide_eq_true_eq]; omega
  · show (PyData.canLayAll0 ds && decide (PyData.depthAll ds + 1 ≤ 64)) = true
    have h1 : PyData.canLayAll0 ds = true := f.lay
    have h2 : PyData.depthAll ds + 1 ≤ k := f.dep
    rw [h1, Bool.true_and, decide_eq_true_eq]; omega
section
variable {X : Cx} {j : Nat}
theorem call_reprF (gd : X.A.guards = some []) (room : Room j X.A) (K : PySem.W.Frag) (hK : X.K = K := by rfl) : CallR X (.builtin "repr") (fun xs H Q => ∃ (a : Addr) (d : PyData) (k n : Nat), xs = [.ref a] ∧ Dp K H (.ref a) d ∧ Fit k n d ∧ k ≤ 60 ∧ n ≤ 1000000 ∧ Q (.str d.shown) H) := by
  subst hK
  intro pins s σ H xs us Q I rel want
  obtain ⟨a, d, k, n, rfl, hd, f, hk, hn, q⟩ := want
  exact call_reprG gd room pins s σ H _ us Q I rel ⟨a, d, rfl, hd, f.sho, PyData.hasDict_of_canLay d f.lay, Nat.le_trans f.dep hk, f.size hn, q⟩
end
mutual
theorem Dp.same {K : PySem.W.Frag} {H H' : Hp} (s : Same H H') : ∀ {d : PyData} {v : V}, Dp K H v d → Dp K H' v d
  | .none, _, h => by cases h; exact .non
  | .bool _, _, h => by cases h; exact .bl _
  | .int _, _, h => by cases h; exact .int _
  | .str _, _, h => by cases h; exact .str _
  | .list _, _, h => by cases h with | lst q r => exact .lst (s.seq q) (DpAll.same s r)
  | .tuple _, _, h => by cases h with | tup q r => exact .tup (sm_seqT s q) (DpAll.same s r)
  | .dict _, _, h => by cases h
theorem DpAll.same {K : PySem.W.Frag} {H H' : Hp} (s : Same H H') : ∀ {ds : List PyData} {vs : List V}, DpAll K H vs ds → DpAll K H' vs ds
  | [], _, h => by cases h; exact .nil
  | _ :: _, _, h => by cases h with | cons q r => exact .cons (Dp.same s q) (DpAll.same s r)
end
theorem dpAll_get {K : PySem.W.Frag} {H : Hp} {α : Type} {f : α → V} {g : α → PyData} : ∀ {xs : List α}, (∀ x ∈ xs, Dp K H (f x) (g x)) → DpAll K H (xs.map f) (xs.map g)
  | [], _ => .nil
  | x :: xs, h => .cons (h x List.mem_cons_self) (dpAll_get fun y hy => h y (List.mem_cons_of_mem _ hy))
end LX
set_option maxHeartbeats 2000000
namespace LX
open PySem PySem.Spec PyProof.Rows L2 C8 SX
section
variable {X : Cx}
theorem pe_joinK (K : PySem.W.Frag) {o e : Expr} {to te : TE} {apos pos : Pos} (ho : PE X o to) (he : PE X e te) (hK : X.K = K := by rfl) (hs : starEach [e] X.env = [(false, eval e X.env)] := by rfl) (hbase : attributeBase o "join" X.env (eval o X.env) = eval o X.env := by rfl) (hline : (apos.endLine == pos.line) = true := by rfl) :
    PE X (.Call (.Attribute o "join" apos) [e] [] pos) (tM1 (fun x xs H Q => ∃ a p, ∃ ys : List Str, x = .str a ∧ xs = [.ref p] ∧ (SqL K H p (ys.map V.str) ∨ SqT K H p (ys.map V.str)) ∧
      (ys.map (·.length)).sum + ys.length * a.length ≤ 16777216 ∧ Q (.str (Txt.join a ys)) H) to te) := by subst hK; exact pe_join ho he hs hbase hline
end
def tJd (ts : List TE) : TE := fun σ H Q => tJs ts Str.empty σ H fun out H1 => Q (.str out) H1
theorem pe_joinedD {X : Cx} {v1 v2 : Expr} {rest : List Expr} {ts : List TE} {pos : Pos} (h : PJ X (v1 :: v2 :: rest) ts) : PE X (.JoinedStr (v1 :: v2 :: rest) pos) (tJd ts) := pe_joined h
theorem joinL_len {sep : List Nat} {m : Nat} : ∀ {ys : List (List Nat)}, (∀ y ∈ ys, y.length ≤ m) → (TL.joinL sep ys).length ≤ ys.length * (m + sep.length)
  | [], _ => by simp [TL.joinL]
  | [y], h => by
    have := h y List.mem_cons_self
    simp [TL.joinL]
    omega
  | y :: z :: ys, h => by
    have ih := joinL_len (sep := sep) (ys := z :: ys) fun x hx => h x (List.mem_cons_of_mem _ hx)
    have h1 := h y List.mem_cons_self
    have e : TL.joinL sep (y :: z :: ys) = y ++ sep ++ TL.joinL sep (z :: ys) := by simp [TL.joinL]
    rw [e, List.length_append, List.length_append, List.length_cons, Nat.add_mul]
    omega
theorem sum_lens {m : Nat} : ∀ {ys : List (List Nat)}, (∀ l ∈ ys, l.length ≤ m) → ((ys.map S).map (·.length)).sum ≤ ys.length * m
  | [], _ => by simp
  | y :: ys, h => by
    have ih := sum_lens (m := m) (ys := ys) fun l hl => h l (List.mem_cons_of_mem _ hl)
    have h0 := h y List.mem_cons_self
    simp only [List.map_cons, List.sum_cons, List.length_cons]
    rw [S_len, Nat.add_mul]
    omega
theorem joinS_ok {m n : Nat} {sep : List Nat} {ys : List (List Nat)} (h : ∀ l ∈ ys, l.length ≤ m) (hn : ys.length ≤ n) (hm : n * (m + sep.length) ≤ 16000000) : ((ys.map S).map (·.length)).sum + (ys.map S).length * (S sep).length ≤ 16777216 := by
  rw [S_len, List.length_map]
  have := sum_lens h
  have h2 : ys.length * (m + sep.length) ≤ n * (m + sep.length) := Nat.mul_le_mul_right _ hn
  rw [Nat.mul_add] at h2
  omega
end LX
set_option maxHeartbeats 2000000
namespace LX
open PySem PySem.Spec PyProof.Rows L2 C8 SX
section
variable {X : Cx} {k j : Nat} {C : Addr} {sp : Sp}
theorem met_runV {mth : Str} {pins : List (Addr × Obj)} {σ : L2.St} {H : Hp} {s : Shared} {A : Around} {a : Addr} {y : V} {u : Value} {Q : Value → Shared → Prop} (c : Met X.prog X.w X.K X.mg X.base k C mth sp []) (hr : Room k A) (hfr : A.frames = X.A.frames) (I : Inv X pins σ H s) (ry : RelV y u)
    {R : VK} (hsp : sp [.ref a, y] H R C8.E0) (hQ : ∀ v z H' s', Inv X pins σ H' s' → RelV z v → R z H' → Q v s') :
    ∃ f, PySem.W.findIn X.K (.ref C) mth = some (some (.ref f)) ∧ PySem.W.isFn X.K (.ref f) = true ∧ wpAny (model X.prog X.w) A (call (.ref f) [.ref a, u]) Q X.xe s := by
  obtain ⟨f, fd, ps, ds, hc, hm, F, hb, hd⟩ := c.ex
  refine ⟨f, hm.at_, hm.fn, ?_⟩
  have e0 : Env0 X.prog X.w X.K X.mg X.base A X.stack s H := by
    have e := I.env0
    exact ⟨by rw [hfr]; exact e.frames, e.mod, e.bs, e.bsz, e.funs, e.frf, e.hok, e.bare⟩
  have hds : ds = [] := by cases hd; rfl
  subst hds
  have hl := F.len _ _ _ _ hsp
  have r2 : Vals [V.ref a, y] [Value.ref a, u] := .cons rfl (.cons ry .nil)
  refine wpAny_call (codeAny_mono (F.run A X.stack s H ⟨[.ref a, u], []⟩ [.ref a, u] [.ref a, y] _ C8.E0 hr e0 (by
    have := hb s [.ref a, u] I.kIn (by simpa using hl)
    simpa using this) r2 hsp) fun r s' hq => ?_)
  cases r with
  | error e => exact C8.pass0 (E := C8.E0) pins σ H s e s' I hq
  | ok fl =>
    cases fl with
    | ret w =>
      obtain ⟨z, H', I', rz, q⟩ := I.after hq
      exact hQ w z H' s' I' rz q
    | next => exact False.elim hq
    | brk => exact False.elim hq
    | cont => exact False.elim hq
def rEqIV (K : PySem.W.Frag) (C : Addr) (sp : Sp) : R2 := fun x y H Q => ∃ a dx fs t, x = .ref a ∧ H a = some (.ins C dx fs) ∧ TyX K H y t ∧ PySem.W.notFirst K C t = true ∧ sp [.ref a, y] H (fun v H' => ∃ r, v = .bl r ∧ Q (.bl r) H') C8.E0
theorem op_eqIV (c : Met X.prog X.w X.K X.mg X.base k C "__eq__" sp []) (hr : Room j X.A) (hk : k ≤ j) : OpR X (compareOp .Eq) (rEqIV X.K C sp) := by
  intro pins s σ H x y v u Q I rx ry h
  obtain ⟨a, dx, fs, t, rfl, ha, hty, hnf, hsp⟩ := h
  cases rx
  obtain ⟨mA, J, _⟩ := ins_get I.hok ha
  obtain ⟨od, J, _⟩ := J.look
  obtain ⟨m, hF⟩ := I.fr
  obtain ⟨P, kx, hP, _⟩ := kit_of I ry hty
  obtain ⟨f, hs, hf, hw⟩ := met_runV (Q := PySem.W.CmpBack (EP X pins σ Q)) c (hr.mono hk) rfl I ry hsp (fun v z H' s' I' rz q => by
    obtain ⟨r, rfl, q⟩ := q
    cases rz
    exact ⟨.bl r, H', I', rfl, q⟩)
  exact PySem.W.cmp_K (op := .Eq) (tb := t) hr.units0 hF I.ok.mod.kin J (kx.ty _ _ I.kIn hP) hnf hs hf hw
theorem op_eqDK (K : PySem.W.Frag) (hr : Room j X.A) (h : X.K = K := by rfl) : OpR X (compareOp .Eq) (rEqD K) := by subst h; exact op_eqD hr.units
theorem op_neDK (K : PySem.W.Frag) (hr : Room j X.A) (h : X.K = K := by rfl) : OpR X (compareOp .NotEq) (rNeD K) := by subst h; exact op_neD hr.units
end
def tD (xs : List (List Nat)) : PyData := .tuple (xs.map fun l => .str (S l))
def ttD (xss : List (List (List Nat))) : PyData := .tuple (xss.map tD)
theorem dp_t {K : PySem.W.Frag} {H : Hp} {a : Addr} {xs : List (List Nat)} (h : SqT K H a (txs xs)) : Dp K H (.ref a) (tD xs) := .tup h (dp_strs xs)
theorem eqv_t (xs ys : List (List Nat)) : PyData.eqv (tD xs) (tD ys) = decide (xs = ys) := eqv_strs xs ys
theorem eqv_tts : ∀ xss yss : List (List (List Nat)), PyData.eqvAll (xss.map tD) (yss.map tD) = decide (xss = yss)
  | [], [] => rfl
  | [], _ :: _ => rfl
  | _ :: _, [] => rfl
  | x :: xs, y :: ys => by
    show (PyData.eqv (tD x) (tD y) && PyData.eqvAll (xs.map tD) (ys.map tD)) = _
    rw [eqv_t, eqv_tts xs ys, ← Bool.decide_and]
    exact decide_eq_decide.mpr (by rw [List.cons.injEq])
theorem eqv_tt (xss yss : List (List (List Nat))) : PyData.eqv (ttD xss) (ttD yss) = decide (xss = yss) := eqv_tts xss yss
theorem fit_t {m n : Nat} {xs : List (List Nat)} (hs : Small xs) (hl : ∀ l ∈ xs, l.length ≤ n) (hm : xs.length ≤ m) : Fit 2 (m * (n + 1)) (tD xs) :=
  Fit.tup (k := 0) (n := n) (fun d hd => by obtain ⟨l, hl', rfl⟩ := List.mem_map.mp hd; exact Fit.text (hs l hl') (hl l hl')) (by rw [List.length_map]; exact hm)
theorem fit_tt {m n p : Nat} {xss : List (List (List Nat))} (h : ∀ xs ∈ xss, Small xs ∧ (∀ l ∈ xs, l.length ≤ n) ∧ xs.length ≤ m) (hp : xss.length ≤ p) : Fit 4 (p * (m * (n + 1) + 1)) (ttD xss) :=
  Fit.tup (k := 2) (fun d hd => by obtain ⟨xs, hx, rfl⟩ := List.mem_map.mp hd; obtain ⟨h1, h2, h3⟩ := h xs hx; exact fit_t h1 h2 h3) (by rw [List.length_map]; exact hp)
end LX
set_option maxHeartbeats 1000000
namespace LX
open PySem PySem.Spec PyProof.Rows L2 C8 SX
section
variable {X : Cx} {K : PySem.W.Frag} {H : Hp}
def inz (xs : List Int) : List V := xs.map V.int
theorem inz_len (xs : List Int) : (inz xs).length = xs.length := List.length_map ..
theorem dp_inz : ∀ xs : List Int, DpAll K H (inz xs) (xs.map PyData.int)
  | [] => .nil
  | x :: xs => .cons (.int _) (dp_inz xs)
theorem lay_inz : ∀ xs : List Int, PyData.canLayAll0 (xs.map PyData.int) = true ∧ PyData.depthAll (xs.map PyData.int) ≤ 1
  | [] => ⟨rfl, Nat.zero_le _⟩
  | x :: xs => by
    obtain ⟨h1, h2⟩ := lay_inz xs
    refine ⟨?_, ?_⟩
    · show (PyData.canLay0 (.int x) && PyData.canLayAll0 (xs.map PyData.int)) = true
      rw [h1, Bool.and_true]; rfl
    · show max (PyData.depth (.int x)) (PyData.depthAll (xs.map PyData.int)) ≤ 1
      have e : PyData.depth (.int x) ≤ 1 := Nat.zero_le _
      omega
theorem shaped_inz (xs : List Int) : SeqAt.shaped (.list (xs.map PyData.int)) = true := by
  obtain ⟨h1, h2⟩ := lay_inz xs
  show (PyData.canLayAll0 _ && decide (PyData.depthAll _ + 1 ≤ 64)) = true
  rw [h1, Bool.true_and, decide_eq_true_eq]; omega
def rNeE : R2 := fun x y H Q => ∃ (a b : Addr) (xs : List Int), x = .ref a ∧ y = .ref b ∧ H a = some (.lst (inz xs)) ∧ H b = some (.lst []) ∧ Q (.bl (!xs.isEmpty)) H
theorem op_neE {k : Nat} (hr : Room k X.A) : OpR X (compareOp .NotEq) rNeE := by
  intro pins s σ H x y v u Q I rx ry h
  obtain ⟨a, b, xs, rfl, rfl, ha, hb, q⟩ := h
  refine op_neD hr.units pins s σ H _ _ v u Q I rx ry ⟨_, _, .lst (SqL.of ha) (dp_inz xs), .lst (SqL.of hb) .nil, shaped_inz xs, shaped_inz [], ?_⟩
  cases xs with
  | nil => exact q
  | cons x xs => exact q
theorem at_last {xs : List V} {v : V} (h : 0 < xs.length) (e : xs[xs.length - 1]? = some v) : atI xs (-1) = some v := by
  have : ixN xs.length (-1) = some (xs.length - 1) := by
    unfold ixN
    rw [if_neg (by decide), if_pos (by omega)]
    congr 1; omega
  unfold atI
  rw [this]; exact e
def SeqV (K : PySem.W.Frag) (H : Hp) (x : V) (ys : List V) : Prop :=
  (∃ p, x = .ref p ∧ (SqL K H p ys ∨ SqT K H p ys)) ∨ ∃ l : List Nat, x = .str (S l) ∧ l.length ≤ sizeLine ∧ ys = l.map fun c => V.str (S [c])
def rLenA (K : PySem.W.Frag) : List V → Hp → VK → Prop := fun xs H Q => ∃ x ys, xs = [x] ∧ SeqV K H x ys ∧ Q (.int ys.length) H
theorem lenA (K : PySem.W.Frag) (h : X.K = K := by rfl) : CallR X (.builtin "len") (rLenA K) := by
  subst h
  intro pins s σ H xs us Q I r q
  obtain ⟨x, ys, rfl, hh, q⟩ := q
  rcases hh with ⟨p, rfl, hp⟩ | ⟨l, rfl, hl, rfl⟩
  · exact lenK X.K rfl pins s σ H _ us Q I r ⟨p, ys, rfl, hp, q⟩
  · refine call_len_str pins s σ H _ us Q I r ⟨S l, rfl, by rw [S_len]; exact hl, ?_⟩
    rw [S_len]
    rw [List.length_map] at q
    exact q
def rIxA (K : PySem.W.Frag) : R2 := fun x y H Q => ∃ ys i v, y = .int i ∧ SeqV K H x ys ∧ atI ys i = some v ∧ Q v H
theorem ixA (K : PySem.W.Frag) (h : X.K = K := by rfl) : IxR X (rIxA K) := by
  subst h
  intro value slice pins s σ H x y v u Q I rx ry q hs
  obtain ⟨ys, i, w, rfl, hh, ha, q⟩ := q
  refine ix_seq value slice pins s σ H x (.int i) v u Q I rx ry ?_ hs
  rcases hh with ⟨p, rfl, hp | hp⟩ | ⟨l, rfl, hl, rfl⟩
  · exact .inl ⟨p, ys, i, w, rfl, rfl, hp, ha, q⟩
  · exact .inr (.inl ⟨p, ys, i, w, rfl, rfl, hp, ha, q⟩)
  · have e : ∀ j, (l.map fun c => V.str (S [c]))[j]? = (l[j]?).map fun c => V.str (S [c]) := fun j => List.getElem?_map ..
    have e2 : atI l i = none ∧ w = w ∨ ∃ c, atI l i = some c ∧ w = .str (S [c]) := by
      unfold atI at ha ⊢
      rw [List.length_map] at ha
      cases hx : ixN l.length i with
      | none => rw [hx] at ha; cases ha
      | some j =>
        rw [hx] at ha
        have ha : (l.map fun c => V.str (S [c]))[j]? = some w := ha
        rw [e] at ha
        cases hc : l[j]? with
        | none => rw [hc] at ha; cases ha
        | some c => rw [hc] at ha; exact .inr ⟨c, hc, (Option.some.inj ha).symm⟩
    rcases e2 with ⟨e3, _⟩ | ⟨c, e3, rfl⟩
    · exfalso
      unfold atI at ha e3
      rw [List.length_map] at ha
      cases hx : ixN l.length i with
      | none => rw [hx] at ha; cases ha
      | some j =>
        rw [hx] at ha e3
        have ha : (l.map fun c => V.str (S [c]))[j]? = some w := ha
        have e3 : l[j]? = none := e3
        rw [e, e3] at ha; cases ha
    · exact .inr (.inr ⟨S l, i, c, rfl, rfl, by rw [S_len]; exact hl, e3, q⟩)
theorem le1000 {n : Nat} (h : n ≤ 1000) : n ≤ sizeLine := Nat.le_trans h (by decide)
theorem inz_get {cs : List Int} {i : Nat} {x : V} (h : (inz cs)[i]? = some x) : ∃ z, cs[i]? = some z ∧ x = .int z := by
  unfold inz at h
  rw [List.getElem?_map] at h
  cases q : cs[i]? with
  | none => rw [q] at h; cases h
  | some l => rw [q] at h; exact ⟨l, rfl, (Option.some.inj h).symm⟩
theorem inz_of : ∀ {ys : List V}, (∀ (j : Nat) y, ys[j]? = some y → ∃ z : Int, y = .int z) → ∃ cs : List Int, ys = inz cs
  | [], _ => ⟨[], rfl⟩
  | y :: ys, h => by
    obtain ⟨z, rfl⟩ := h 0 y rfl
    obtain ⟨cs, rfl⟩ := inz_of (ys := ys) fun j z q => h (j + 1) z q
    exact ⟨z :: cs, rfl⟩
theorem nxt {D : Ends} {σ : L2.St} {H : Hp} (h : D.nx σ H) : tNext D σ H := h
end
end LX
set_option maxHeartbeats 2000000
namespace LX
open PySem PySem.Spec PyProof.Rows L2 C8 SX
section
variable {X : Cx}
def tRevLX (K : PySem.W.Frag) (te ts : TE) : TE := fun σ H Q => te σ H fun x H1 => ts σ H1 fun y H2 => ∃ i, y = .int i ∧ (some i = some (-1) ∧ ∃ (a : Addr) (xs : List V), x = .ref a ∧ SqL K H2 a xs ∧ ∀ p, H2 p = none → Q (.ref p) (upd H2 p (.lst xs.reverse)))
theorem pe_revLX {e st : Expr} {te ts : TE} {p3 pos : Pos} (K : PySem.W.Frag) (he : PE X e te) (hs : PE X st ts) (hK : X.K = K := by rfl) : PE X (.Subscript e (.Slice none none (some st) p3) pos) (tRevLX K te ts) := by
  subst hK
  refine ⟨fun pins s σ H Q I h => ?_⟩
  refine Subscript_ (thn (he.run pins s σ H _ I h) fun v s1 ⟨x, H1, I1, r1, q1⟩ => ?_)
  have hst : PO X (some st) (tPart ts) := po_some hs
  refine wpAny_Slice (thn (po_none.run pins s1 σ H1 (fun o H2 => o = none ∧ H2 = H1) I1 ⟨rfl, rfl⟩) fun vl s2 ⟨l, H2, I2, pl, el, e2⟩ => ?_)
  subst el e2
  refine thn (po_none.run pins s2 σ H2 (fun o H3 => o = none ∧ H3 = H2) I2 ⟨rfl, rfl⟩) fun vu s3 ⟨u, H3, I3, pu, eu, e3⟩ => ?_
  subst eu e3
  refine thn (hst.run pins s3 σ H3 (fun o H4 => o = some (-1) ∧ ∃ (a : Addr) (xs : List V), x = .ref a ∧ SqL X.K H4 a xs ∧ ∀ p, H4 p = none → Q (.ref p) (upd H4 p (.lst xs.reverse))) I3 q1) fun vs s4 ⟨o, H4, I4, ps, eo, a, xs, ex, hx, q⟩ => ?_
  subst eo ex
  cases r1
  have I5 : Inv X pins σ H4 { s4 with heap := s4.heap.push { cls := .type "slice", data := .fields #[vl, vu, vs] } } := I4.kept (t' := s4.toks) fun b ob q => Heap.get?_push_of_some _ q
  obtain ⟨its, r, ht, hz⟩ := I5.list hx
  have hlen := r.length
  show wpAny (model X.prog X.w) X.A (subscriptTail e (.Slice none none (some st) p3) (.ref a) (.ref s4.heap.objs.size)) (EP X pins σ Q) X.xe { s4 with heap := s4.heap.push { cls := .type "slice", data := .fields #[vl, vu, vs] } }
  refine tail_any (ops := [.ref a, .ref s4.heap.objs.size]) ht.isList.typeIs (PySem.slot_list_getitem.lookup) ?_ (by with_unfolding_all rfl)
  refine wpAny_getItem_list_slice ht.isList (Heap.IsSliceOf.new _ vl vu vs) pl pu ps (by decide) ?_ (by rw [List.size_toArray]; omega)
  rw [PySem.W.krv_pick]
  refine ⟨.ref _, _, I5.laid (t' := s4.toks) (o := .lst xs.reverse) (fun b ob q => Heap.get?_push_of_some _ q) (Nat.le_refl _) ?_, rfl, q _ (I5.hok.fresh (Nat.le_refl _))⟩
  exact ⟨by rw [List.length_reverse]; exact hz, _, 0, r.reverse, Heap.get?_push_size _ rfl⟩
end
def NL (H H' : Hp) : Prop := ∀ a o, H a = some o → (∀ xs, o ≠ .lst xs) → H' a = some o
theorem NL.refl (H : Hp) : NL H H := fun _ _ e _ => e
theorem NL.trans {H H1 H2 : Hp} (p : NL H H1) (q : NL H1 H2) : NL H H2 := fun a o e n => q a o (p a o e n) n
theorem nl_same {H H' : Hp} (s : Same H H') : NL H H' := fun a o e _ => s a o e
theorem nl_lset {H : Hp} {a : Addr} {xs ys : List V} (h : H a = some (.lst xs)) : NL H (upd H a (.lst ys)) := fun b o e n => by
  rw [upd_ne (fun z => by rw [z, h] at e; exact n xs (Option.some.inj e).symm)]; exact e
end LX
set_option maxHeartbeats 2000000
namespace LX
open PySem PySem.Spec PyProof.Rows L2 C8 SX
section
variable {X : Cx} {k j : Nat} {C : Addr} {sp : Sp}
theorem met_run0 {mth : Str} {pins : List (Addr × Obj)} {σ : L2.St} {H : Hp} {s : Shared} {A : Around} {a : Addr} {Q : Value → Shared → Prop} (c : Met X.prog X.w X.K X.mg X.base k C mth sp []) (hr : Room k A) (hfr : A.frames = X.A.frames) (I : Inv X pins σ H s)
    {R : VK} (hsp : sp [.ref a] H R C8.E0) (hQ : ∀ v z H' s', Inv X pins σ H' s' → RelV z v → R z H' → Q v s') :
    ∃ f, PySem.W.findIn X.K (.ref C) mth = some (some (.ref f)) ∧ PySem.W.isFn X.K (.ref f) = true ∧ wpAny (model X.prog X.w) A (call (.ref f) [.ref a]) Q X.xe s := by
  obtain ⟨f, fd, ps, ds, hc, hm, F, hb, hd⟩ := c.ex
  refine ⟨f, hm.at_, hm.fn, ?_⟩
  have e0 : Env0 X.prog X.w X.K X.mg X.base A X.stack s H := by
    have e := I.env0
    exact ⟨by rw [hfr]; exact e.frames, e.mod, e.bs, e.bsz, e.funs, e.frf, e.hok, e.bare⟩
  have hds : ds = [] := by cases hd; rfl
  subst hds
  have hl := F.len _ _ _ _ hsp
  have r2 : Vals [V.ref a] [Value.ref a] := .cons rfl .nil
  refine wpAny_call (codeAny_mono (F.run A X.stack s H ⟨[.ref a], []⟩ [.ref a] [.ref a] _ C8.E0 hr e0 (by
    have := hb s [.ref a] I.kIn (by simpa using hl)
    simpa using this) r2 hsp) fun r s' hq => ?_)
  cases r with
  | error e => exact C8.pass0 (E := C8.E0) pins σ H s e s' I hq
  | ok fl =>
    cases fl with
    | ret w =>
      obtain ⟨z, H', I', rz, q⟩ := I.after hq
      exact hQ w z H' s' I' rz q
    | next => exact False.elim hq
    | brk => exact False.elim hq
    | cont => exact False.elim hq
theorem call_strI (c : Met X.prog X.w X.K X.mg X.base k C "__str__" sp []) (hr : Room j X.A) (hk : k + 2 ≤ j) : CallR X (.type "str") (fun xs H Q => ∃ a dx fs, xs = [.ref a] ∧ H a = some (.ins C dx fs) ∧ sp [.ref a] H (fun v H' => ∃ z, v = .str z ∧ Q (.str z) H') C8.E0) := by
  intro pins s σ H xs us Q I rel want
  obtain ⟨a, dx, fs, rfl, ha, hsp⟩ := want
  obtain ⟨u, rfl, ru⟩ := vals1 rel
  cases ru
  obtain ⟨mA, J, _⟩ := ins_get I.hok ha
  obtain ⟨od, J, _⟩ := J.look
  have r2 : Room k X.A.in1.in1 := (hr.mono hk).in1.in1
  obtain ⟨f, hs, hf, hw⟩ := met_run0 (A := X.A.in1.in1) (Q := PySem.W.StrBack (EP X pins σ Q)) c r2 rfl I hsp (fun v z H' s' I' rz q => by
    obtain ⟨y, rfl, q⟩ := q
    obtain ⟨t, rfl⟩ := rz
    exact ⟨.str y, H', I', ⟨t, rfl⟩, q⟩)
  exact PySem.W.kso_call r2.units0 I.kIn J hs hf hw
end
end LX
set_option maxHeartbeats 4000000
namespace LX
open PySem PySem.Spec PyProof.Rows L2 C8 SX
abbrev NoCode : Obj := { cls := .none, data := .fields #[] }
abbrev ListO (vs : List Value) : Obj := { cls := .type "list", data := .seq vs.toArray }
structure Tabbing (K : PySem.W.Frag) (mg : Str → Option Value) (h : Heap) (tt : List (Addr × Addr)) : Prop where
  empty : ∀ p ∈ tt, h.get? p.2 = some NoCode
  loose : ∀ p ∈ tt, K.lookup p.2 = none
  code : ∀ p ∈ tt, PySem.W.CodeHd h p.1 p.2
  bm : ∃ (m : Addr) (o : Obj), mg "__builtins__" = some (.ref m) ∧ m ≠ builtinsNs ∧ h.get? m = some o ∧ o.cls = .type "module" ∧ o.dict = some builtinsNs ∧ o.data = .plain
section
variable {P : Program} {w : World} {K : PySem.W.Frag} {mg mb : Str → Option Value} {k : Nat} {fa a : Addr} {fd : FuncData} {x : Str} {sp : Sp} {s : Shared} {vs : List Value} {ns : List Int} {tt : List (Addr × Addr)}
theorem lawGT_at {H : Hp} (tb : Tabbing K mg s.heap tt) (KX : K.In s.heap) (names : s.heap.Ns mainGlobals mg) (bnames : s.heap.Ns builtinsNs mb) (boot : ∀ x : Str, x ≠ "__name__" → mb x = bootBuiltins x) (lim : s.heap.NoLimit) (gens : s.gens = #[])
    (script : s.heap.get? a = some (ListO vs)) (room : Room k callerA) (F : ∀ base : Heap, K.In base → base.Ns mainGlobals mg → (∀ p ∈ tt, LamX.TabB base mg p.1 p.2) → FnG P w K mg base k fa fd [x] sp)
    (binds : ∀ (s : Shared) (u : Value), BindsTo s fd ⟨[u], []⟩ [(x, u)]) (want : sp [.ref a] H (fun v _ => v = .bl true) C8.E0) (ok : HOk P w H s.heap) (tabs : ∀ p ∈ tt, H p.2 = some (.tbl #[]))
    (here : ∀ b u, H b = some u → (b = a ∧ ∃ o xs, u = .frz o (.lst xs)) ∨ ∃ p ∈ tt, p.2 = b) (notK : H a ≠ none → K.lookup a = none) :
    codeAny (model P w) callerA (.call (.ref fa) ⟨[.ref a], []⟩) (fun r s' => Done s s' r) s := by
  have off_script : ∀ p ∈ tt, p.2 ≠ a := fun p hp e => by
    have q := tb.empty p hp
    rw [e, script] at q
    have q2 : Data.seq vs.toArray _ = Data.fields #[] := congrArg Obj.data (Option.some.inj q)
    cases q2
  have clear_of : ∀ {b : Addr} {o : Obj}, s.heap.get? b = some o → o ≠ ListO vs → o ≠ NoCode → H b = none := fun {b o} e n1 n2 => by
    cases q : H b with
    | none => rfl
    | some u =>
      rcases here b u q with ⟨rfl, _⟩ | ⟨p, hp, rfl⟩
      · rw [script] at e; exact absurd (Option.some.inj e).symm n1
      · rw [tb.empty p hp] at e; exact absurd (Option.some.inj e).symm n2
  have see : ∀ {b : Addr} {o : Obj}, s.heap.get? b = some o → o ≠ ListO vs → o ≠ NoCode → (hidT s.heap H).get? b = some o := fun e n1 n2 => hidT_get e (clear_of e n1 n2)
  have names_see : ∀ {b : Addr} {m : Str → Option Value}, s.heap.Ns b m → (hidT s.heap H).Ns b m := fun {b m} ⟨o, es, ep, e, d, r⟩ =>
    ⟨o, es, ep, see e (fun z => by rw [z] at d; cases d) (fun z => by rw [z] at d; cases d), d, r⟩
  have KH : K.In (hidT s.heap H) := fun b o e => hidT_get (KX b o e) (by
    cases q : H b with
    | none => rfl
    | some u =>
      rcases here b u q with ⟨rfl, _⟩ | ⟨p, hp, rfl⟩
      · rw [notK (by rw [q]; simp)] at e; cases e
      · rw [tb.loose p hp] at e; cases e)
  have md : Mod K mg (hidT s.heap H) := by
    obtain ⟨mc, c1, c2⟩ := lim
    exact ⟨KH, names_see names, ⟨mb, names_see bnames, boot⟩, mc, names_see c1, c2⟩
  have based : ∀ p ∈ tt, LamX.TabB (hidT s.heap H) mg p.1 p.2 := fun p hp => by
    have none_at : ∀ {o : Obj}, s.heap.get? p.2 = some o → o = NoCode := fun e => by rw [tb.empty p hp] at e; exact (Option.some.inj e).symm
    constructor
    · obtain ⟨o, us, fl, t1, fg, t2, bf, tx, t3, e, cls, dat, at11, rest⟩ := tb.code p hp
      exact ⟨o, us, fl, t1, fg, t2, bf, tx, t3, see e (fun z => by rw [z] at dat; cases dat) (fun z => by rw [z] at dat; cases dat; simp at at11), cls, dat, at11, rest⟩
    · obtain ⟨m, o, named, apart, e, cls, dct, dat⟩ := tb.bm
      refine ⟨m, o, named, apart, fun z => ?_, fun z => ?_, see e (fun z => by rw [z] at dat; cases dat) (fun z => by rw [z] at dat; cases dat), cls, dct, dat⟩
      · obtain ⟨o2, es, ep, e2, d2, _⟩ := names
        rw [z, e2] at e
        cases e
        rw [d2] at dat
        cases dat
      · rw [z] at e
        rw [none_at e] at dat
        cases dat
    · intro z
      obtain ⟨o2, es, ep, e2, d2, _⟩ := names
      rw [z] at e2
      rw [none_at e2] at d2
      cases d2
  have e0 : Env0 P w K mg (hidT s.heap H) callerA [] s H := ⟨rfl, md, fun _ _ e => of_hidT e, Nat.le_of_eq (hidT_size _ _), trivial, fun _ hm => absurd hm (List.not_mem_nil), ok, .of_eq gens⟩
  refine codeAny_mono ((F _ KH (names_see names) based).goes callerA [] s H ⟨[.ref a], []⟩ [.ref a] [.ref a] _ _ rfl room e0 (binds s (.ref a)) (.cons rfl .nil) want) fun r t got => ?_
  match r, got with
  | .ok (.ret u), got =>
    obtain ⟨v, H2, os, bare, un, ok2, rel, is_true⟩ := got
    obtain rfl : v = V.bl true := is_true
    obtain rfl : u = Value.bool true := rel
    have stays : ∀ b o, (∀ p ∈ tt, p.2 ≠ b) → s.heap.get? b = some o → t.heap.get? b = some o := fun b o away e => by
      cases q : H b with
      | none => exact un.keep b o e q (fun z => absurd z List.not_mem_nil) (by simp)
      | some u =>
        rcases here b u q with ⟨_, ob, xs, rfl⟩ | ⟨p, hp, z⟩
        · obtain ⟨e1, _⟩ := ok b _ q
          obtain ⟨e2, _⟩ := ok2 b _ (un.frzs b ob _ q)
          rw [e] at e1
          cases e1
          exact e2
        · exact absurd z (away p hp)
    have more : ∀ p ∈ tt, ∃ us : Array Value, t.heap.get? p.2 = some { cls := .none, data := .fields us } := fun p hp => by
      obtain ⟨us, z⟩ := un.tbls p.2 #[] (tabs p hp)
      exact ⟨_, ok2 p.2 _ z⟩
    refine ⟨rfl, ⟨fun b o e => ?_, fun b o e => ?_⟩, os, bare⟩
    · by_cases q : ∃ p ∈ tt, p.2 = b
      · obtain ⟨p, hp, rfl⟩ := q
        obtain ⟨us, eu⟩ := more p hp
        have e1 := tb.empty p hp
        rw [e] at e1
        cases e1
        exact .inr (.inl ⟨((tb.code p hp).tab (tb.empty p hp)).isCodeTable, rfl, #[], us, rfl, by rw [Array.empty_append]; exact eu⟩)
      · exact .inl (stays b o (fun p hp z => q ⟨p, hp, z⟩) e)
    · by_cases q : ∃ p ∈ tt, p.2 = b
      · obtain ⟨p, hp, rfl⟩ := q
        obtain ⟨us, eu⟩ := more p hp
        exact ⟨_, eu⟩
      · exact ⟨o, stays b o (fun p hp z => q ⟨p, hp, z⟩) e⟩
open Classical in
theorem lawGT_call (tb : Tabbing K mg s.heap tt) (KX : K.In s.heap) (names : s.heap.Ns mainGlobals mg) (bnames : s.heap.Ns builtinsNs mb) (boot : ∀ x : Str, x ≠ "__name__" → mb x = bootBuiltins x) (lim : s.heap.NoLimit) (gens : s.gens = #[])
    (script : s.heap.get? a = some (ListO vs)) (nums : IntsAre vs ns) (few : ns.length ≤ sizeLine) (room : Room k callerA) (F : ∀ base : Heap, K.In base → base.Ns mainGlobals mg → (∀ p ∈ tt, LamX.TabB base mg p.1 p.2) → FnG P w K mg base k fa fd [x] sp)
    (binds : ∀ (s : Shared) (u : Value), BindsTo s fd ⟨[u], []⟩ [(x, u)]) (want : ∀ H : Hp, (∀ p ∈ tt, H p.2 = some (.tbl #[])) → SqL K H a (ns.map V.int) → sp [.ref a] H (fun v _ => v = .bl true) C8.E0) :
    codeAny (model P w) callerA (.call (.ref fa) ⟨[.ref a], []⟩) (fun r s' => Done s s' r) s := by
  have rel := vals_ints nums
  have isT : ∀ b, (∃ p ∈ tt, p.2 = b) → s.heap.get? b = some NoCode := fun b ⟨p, hp, e⟩ => e ▸ tb.empty p hp
  let T : Hp := fun b => if ∃ p ∈ tt, p.2 = b then some (.tbl #[]) else none
  have T_in : ∀ {b u}, T b = some u → (∃ p ∈ tt, p.2 = b) ∧ u = .tbl #[] := fun {b u} z => by
    by_cases q : ∃ p ∈ tt, p.2 = b
    · exact ⟨q, (Option.some.inj ((if_pos q).symm.trans z)).symm⟩
    · cases (if_neg q).symm.trans z
  have T_at : ∀ p ∈ tt, T p.2 = some (.tbl #[]) := fun p hp => if_pos ⟨p, hp, rfl⟩
  have a_off : ¬ ∃ p ∈ tt, p.2 = a := fun q => by
    have z := isT a q
    rw [script] at z
    have z2 : Data.seq vs.toArray _ = Data.fields #[] := congrArg Obj.data (Option.some.inj z)
    cases z2
  have T_ok : HOk P w T s.heap := fun b u z => by
    obtain ⟨q, rfl⟩ := T_in z
    exact isT b q
  cases own : K.lookup a with
  | some o =>
    have e := KX a o own
    rw [script] at e
    cases e
    exact lawGT_at tb KX names bnames boot lim gens script room F binds (want T T_at (.inr ⟨_, vs.toArray, _, own, rfl, rfl, rfl, by rw [List.size_toArray, nums.length]; exact few, by simpa using rel⟩)) T_ok T_at (fun b u z => .inr (T_in z).1)
      fun z => absurd (if_neg a_off : T a = none) z
  | none =>
    let one : HO := .frz (ListO vs) (.lst (ns.map V.int))
    let H : Hp := fun b => if b = a then some one else T b
    have at_a : H a = some one := if_pos rfl
    have off : ∀ {b}, b ≠ a → H b = T b := fun n => if_neg n
    refine lawGT_at tb KX names bnames boot lim gens script room F binds (want H (fun p hp => (off fun z => a_off ⟨p, hp, z⟩).trans (T_at p hp)) (.inl (.inr ⟨_, at_a⟩))) (fun b u z => ?_) (fun p hp => (off fun z => a_off ⟨p, hp, z⟩).trans (T_at p hp)) (fun b u z => ?_) fun _ => own
    · by_cases e : b = a
      · subst e
        rw [at_a] at z
        cases z
        exact ⟨script, by rw [List.length_map]; exact few, vs, _, rel, script⟩
      · rw [off e] at z
        obtain ⟨q, rfl⟩ := T_in z
        exact isT b q
    · by_cases e : b = a
      · subst e
        rw [at_a] at z
        exact .inl ⟨rfl, _, _, (Option.some.inj z).symm⟩
      · rw [off e] at z
        exact .inr (T_in z).1
end
theorem walkGT {l : PySem.W.OpenLaw} {n k : Nat} {q : Program} {loose : List Str} {XP : (Str → Option Value) → Heap → Prop} {YP : World → Heap → Prop} {d : DefRec} {K : Params → PySem.W.Frag} {sp : PySem.W.Frag → List (Addr × Addr) → Sp} {x : Str} (hn : l.most = some n) (hn2 : n ≤ sizeLine)
    (hdf : d.params.defaults = []) (room : Room k callerA) (hY : ∀ (w : World) (h : Heap), YP w h → (K w.params).In h)
    (F : ∀ (w : World) (mg : Str → Option Value) (fa : Addr) (h : Heap), (K w.params).In h → h.Ns mainGlobals mg → mg d.name = some (.ref fa) →
      ∃ (fd : FuncData) (tt : List (Addr × Addr)), (∀ p ∈ tt, (∃ (nm : Str) (e : DefRec), PySem.W.tabIn (K w.params) nm = some p ∧ (recsOf q).find? (fun e => e.name == nm) = some e) ∧ (K w.params).lookup p.2 = none) ∧
        (∀ (s : Shared) (u : Value), BindsTo s fd ⟨[u], []⟩ [(x, u)]) ∧ ∀ base : Heap, (K w.params).In base → base.Ns mainGlobals mg → (∀ p ∈ tt, LamX.TabB base mg p.1 p.2) → FnG l.prog w (K w.params) mg base k fa fd [x] (sp (K w.params) tt))
    (want : ∀ (K : PySem.W.Frag) (tt : List (Addr × Addr)) (H : Hp) (a : Addr) (ns : List Int), ns.length ≤ n → (∀ p ∈ tt, H p.2 = some (.tbl #[])) → SqL K H a (ns.map V.int) → sp K tt [.ref a] H (fun v _ => v = .bl true) C8.E0) : PySem.W.WalkO q loose XP YP l.row.toRowW d [] (fun f vs => PySem.call f vs) := by
  refine Att.attach_call hn hdf ?_
  intro w s0 s1 mg mb fa o pm cd doc a vs ns G Y _ _ _ named list_ nums few gens
  have KX := hY w _ Y
  obtain ⟨fd, tt, ht, bd, F1⟩ := F w mg fa _ KX G.T.g named
  have tb : Tabbing (K w.params) mg s1.heap tt := ⟨fun p hp => let ⟨⟨nm, e, t1, r1⟩, _⟩ := ht p hp; (PySem.W.tab_of G.T KX r1 t1).2, fun p hp => (ht p hp).2, fun p hp => let ⟨⟨nm, e, t1, r1⟩, _⟩ := ht p hp; (PySem.W.tab_of G.T KX r1 t1).1, G.T.bmain⟩
  exact lawGT_call tb KX G.T.g G.T.b G.T.builtins G.T.nolimit gens list_ nums (Nat.le_trans few hn2) room F1 bd fun H ht hs => want _ _ H a ns few ht hs
end LX
set_option maxHeartbeats 2000000
namespace LX
open PySem PySem.Spec PyProof.Rows L2 C8 SX
def tDisp1T (tk tv : TE) : TE := fun σ H Q => ∀ p, H p = none → tk σ (upd H p (.dT [])) fun x H1 => tv σ H1 fun y H2 => ∃ (b : Addr) (k : List Key), x = .ref b ∧ H2 b = some (.tup (k.map kV)) ∧ H2 p = some (.dT []) ∧ Q (.ref p) (upd H2 p (.dT [(k, y)]))
theorem pe_disp1T {X : Cx} {k v : Expr} {pos : Pos} {tk tv : TE} (hu : X.A.units + 1 < cLine) (hk : PE X k tk) (hv : PE X v tv) : PE X (.Dict [some k] [v] pos) (tDisp1T tk tv) := by
  refine ⟨fun pins s σ H Q I q => ?_⟩
  have hn := I.hok.fresh (Nat.le_refl s.heap.objs.size)
  have I1 := I.laid (a := s.heap.objs.size) (o := .dT []) (h' := s.heap.push { cls := .type "dict", data := .dict #[] }) (t' := s.toks) (fun _ _ q => Heap.get?_push_of_some _ q) (Nat.le_refl _) (dt_empty s.heap I.big)
  have hs := zip_pairTrees [some k] [v] X.env pos rfl rfl
  rw [arm_eval_Dict, hs, dictDisplay_pairs (pairTrees [some k] [v] X.env pos) (by intro h; cases h) (by show 1 < 17; decide)]
  refine wpAny_bind (wpAny_standAt (wpAny_bind ?_))
  unfold subDict
  refine wpAny_bind (wpAny_alloc ?_)
  refine wpAny_bind (wpAny_holding ?_)
  rw [if_pos (show (pairTrees [some k] [v] X.env pos).length ≤ 15 by show 1 ≤ 15; decide)]
  refine wpAny_bind (pairTrees_cons_walk (thn (hk.run pins _ σ _ _ I1 (q _ hn)) fun u s1 ⟨x, H1, I1', rx, q1⟩ => thn (hv.run pins s1 σ H1 _ I1' q1) fun w2 s2 ⟨y, H2, I2, ry, b, key, ex, eb, ep, q2⟩ => pairTrees_nil_walk ?_))
  subst ex
  obtain rfl : u = Value.ref b := rx
  obtain ⟨z, hd, xs, rel, dd⟩ := dt_of I2.hok ep
  refine wpAny_holding ?_
  refine wpAny_bind ?_
  rw [List.forIn_cons]
  refine wpAny_bind (wpAny_bind ?_)
  have hu0 : (tupleKind (mixKind X.prog X.w)).room X.A := Nat.lt_of_succ_lt hu
  refine wpAny_dictSet_heap (hsz := by rw [← Paired.length rel]; exact z) hu0 (key_of I2.hok eb) dd fun h' dd' hs' => ?_
  refine wpAny_pure ?_
  show wpAny _ _ (forIn ([] : List (Value × Value)) PUnit.unit _) _ _ _
  rw [List.forIn_nil]
  refine wpAny_pure (wpAny_pure (wpAny_pure (wpAny_pure ?_)))
  obtain ⟨qo, es, ep2, hq, h2, h3, h4, _, h5⟩ := dd'
  refine ⟨.ref s.heap.objs.size, upd H2 s.heap.objs.size (.dT [(key, y)]), ?_, rfl, q2⟩
  refine d_write I2 (by rw [ep]; exact True.intro) hs' ⟨qo, hq⟩ ⟨by show 1 ≤ sizeLine; decide, hd, _, (rel.put key eb ry).keeps fun c ys ec => ?_, qo, es, ep2, hq, h2, h3, h4, h5⟩
  rw [upd_ne (ne_of ec ep (fun z => nomatch z))]
  exact ec
end LX
set_option maxHeartbeats 4000000
namespace EV
open PySem PySem.HandSPX
open Builtin Builtin.ObjectAttr
section
variable {M : Model} {A : Around} {E : Value → Shared → Prop} {h : Heap} {g : Array GenState} {d : Drawn} {t : Nat} {os : OsState}
variable {nm q : Str} {C N : Addr} {bs bm bmB : List Value} {hdct : Bool} {sn : List Str} {sub : List Value} {ab : Bool} {col : Option Bool} {dd : Option Addr} {k0 k1 k2 k3 k5 : Option Value} {B newId initId : String}
theorem check_new_kw (F : ExcBaseFacts B newId initId bmB) (hB : bm.contains (.type B) = true) {rest : List Value} {kw : List (Str × Value)} {Q : Unit → Shared → Prop}
    (hC : h.get? C = some (excClassObj nm q C N bs bm hdct sn sub ab col dd k0 k1 k2 k3 k5 newId)) (hq : Q () ⟨h, g, d, t, os⟩) : wpAny M A (checkBuiltinCall newId ⟨.ref C :: rest, kw⟩) Q E ⟨h, g, d, t, os⟩ := by
  have hcont : (Value.ref C :: bm).contains (.type B) = true := by rw [List.contains_cons, hB, Bool.or_true]
  have hstar := F.noStar
  simp only [checkBuiltinCall, F.newKind, F.newSplit, F.newRow]
  repeat (first | refine wpAny_loadPart_at hC ?_ | (refine wpAny_isSubtype_exc hC ?_; rw [hcont]) | refine wpAny_staticBase_exc hC ?_ | refine wpAny_madeBy_exc hC ?_ | simp only [bne_self_eq_false, Bool.false_eq_true, if_false] | wp_step)
  exact hq
end
section
variable {prog : Program} {w : World} {A : Around} {E : Value → Shared → Prop} {R : Result → Shared → Prop} {h : Heap} {g : Array GenState} {d : Drawn} {t : Nat} {os : OsState}
variable {nm q : Str} {C N : Addr} {bs bm bmB : List Value} {hdct : Bool} {sn : List Str} {sub : List Value} {ab : Bool} {col : Option Bool} {dd : Option Addr} {k0 k1 k2 k3 k5 : Option Value} {B newId initId : String}
theorem new_kw (F : ExcBaseFacts B newId initId bmB) (hB : bm.contains (.type B) = true) (hA : bm.contains (.type "AttributeError") = false) (hN : bm.contains (.type "NameError") = false) {rest : List Value} {kw : List (Str × Value)}
    (hC : h.get? C = some (excClassObj nm q C N bs bm hdct sn sub ab col dd k0 k1 k2 k3 k5 newId))
    (hq : R (.ok (.ret (.ref (h.objs.size + 1)))) ⟨(h.push { cls := .type "tuple", data := .seq rest.toArray }).push
      { cls := .ref C, data := .fields #[.ref h.objs.size, .none, .none, .none, .bool false, .none] }, g, d, t, os⟩) (hrest : rest.length ≤ sizeLine) :
    codeAny (model prog w) A (.builtin newId ⟨.ref C :: rest, kw⟩) R ⟨h, g, d, t, os⟩ := by
  have hends := F.ends
  have hcB : (Value.ref C :: bm).contains (.type B) = true := by rw [List.contains_cons, hB, Bool.or_true]
  have hcA : (Value.ref C :: bm).contains (.type "AttributeError") = false := by rw [List.contains_cons, hA]; rfl
  have hcN : (Value.ref C :: bm).contains (.type "NameError") = false := by rw [List.contains_cons, hN]; rfl
  refine codeAny_builtinAt F.entry ?_
  unfold Builtin.«BaseException.__new__»
  refine wpAt_bind ?_
  show wpAt _ _ _ (stack >>= _) _ _ _
  refine wpAt_bind (wpAt_stack fun p below => wpAt_of_wpAny ?_)
  wp_walk
  refine wpAt_of_wpAny ?_
  rw [F.owner]
  repeat (first | with_reducible refine wpAny_madeHere_exc F.canon hC ?_ | with_reducible refine wpAny_loadPart_at hC ?_ | (with_reducible refine wpAny_isSubtype_exc hC ?_; first | rw [hcB] | rw [hcA] | rw [hcN]) | wp_step)
  show R _ _
  rw [Heap.size_push]
  exact hq
theorem type_call_kw (F : ExcBaseFacts B newId initId bmB) (hB : bm.contains (.type B) = true) (hA : bm.contains (.type "AttributeError") = false) (hN : bm.contains (.type "NameError") = false) {rest : List Value} {kw : List (Str × Value)} {fI : Addr} {Q : Fin → Shared → Prop}
    (hC : h.get? C = some (excClassObj nm q C N bs bm hdct sn sub ab col dd k0 k1 k2 k3 k5 newId))
    (hi : W.Looks (model prog w) h (typeLookup (.ref C) "__init__") (some (.ref fI))) (hb : ∀ self, W.Looks (model prog w) h (bindSpecial (.ref fI) self) (.ref fI, [self])) (hrest : rest.length ≤ sizeLine)
    (hq : codeAny (model prog w) A (.call (.ref fI) ⟨.ref (h.objs.size + 1) :: rest, kw⟩)
      (fun r s' => match r with | .ok (.ret v) => v = .none ∧ Q (.done (.ret (.ref (h.objs.size + 1)))) s' | .ok _ => False | .error e => E e s')
      ⟨(h.push (W.kdv_tup rest)).push (excO C h.objs.size), g, d, t, os⟩) :
    wpAny (model prog w) A (Builtin.«type.__call__» ⟨.ref C :: rest, kw⟩) Q E ⟨h, g, d, t, os⟩ := by
  repeat (first | with_reducible refine wpAny_loadPart_at hC ?_ | with_reducible refine wpAny_madeBy_exc hC ?_ | wp_step)
  refine codeAny_call_builtin_code (Code.quiet_builtin _ F.quiet) (check_new_kw F hB hC ?_)
  refine new_kw F hB hA hN hC ?_ hrest
  show wpAny _ _ _ _ _ _
  have k : ∀ b o, h.get? b = some o → ((h.push (W.kdv_tup rest)).push (excO C h.objs.size)).get? b = some o := fun b o e => Heap.get?_push_of_some _ (Heap.get?_push_of_some _ e)
  have hC₁ := k _ _ hC
  have hget : ((h.push (W.kdv_tup rest)).push (excO C h.objs.size)).get? (h.objs.size + 1) = some (excO C h.objs.size) := by heap_get
  have hcC : (Value.ref C :: bm).contains (.ref C) = true := by simp
  have i1 := hi.keeps k
  have b1 := (hb (.ref (h.objs.size + 1))).keeps k
  unfold isInstance
  repeat (first | with_reducible refine wpAny_loadPart_at hget ?_ | (with_reducible refine wpAny_isSubtype_exc hC₁ ?_; rw [hcC]) | wp_step)
  show wpAny _ _ (typeLookup (.ref C) _) _ _ _
  refine i1.at ?_
  refine wpAny_holding (wpAny_bind (b1.at ?_))
  refine wpAny_bind (wpAny_call (codeAny_mono hq fun r s' z => ?_))
  rcases r with e | (v | _ | _ | _) <;> first | exact z | exact z.elim | skip
  obtain ⟨rfl, z⟩ := z
  first
    | exact wpAny_pure (wpAny_pure z)
    | (wp_walk; exact z)
theorem call_kw (F : ExcBaseFacts B newId initId bmB) (hB : bm.contains (.type B) = true) (hA : bm.contains (.type "AttributeError") = false) (hN : bm.contains (.type "NameError") = false) {rest : List Value} {kw : List (Str × Value)} {fI : Addr}
    (hC : h.get? C = some (excClassObj nm q C N bs bm hdct sn sub ab col dd k0 k1 k2 k3 k5 newId))
    (hi : W.Looks (model prog w) h (typeLookup (.ref C) "__init__") (some (.ref fI))) (hb : ∀ self, W.Looks (model prog w) h (bindSpecial (.ref fI) self) (.ref fI, [self])) (hrest : rest.length ≤ sizeLine)
    (hq : codeAny (model prog w) (A.under (.builtin "type.__call__" ⟨.ref C :: rest, kw⟩)) (.call (.ref fI) ⟨.ref (h.objs.size + 1) :: rest, kw⟩) (W.InitBack (h.objs.size + 1) R)
      ⟨(h.push (W.kdv_tup rest)).push (excO C h.objs.size), g, d, t, os⟩) :
    codeAny (model prog w) A (.call (.ref C) ⟨rest, kw⟩) R ⟨h, g, d, t, os⟩ := by
  have f1 := tc_lookup
  have f2 := tc_bind (.ref C)
  have hTy : (⟨h, g, d, t, os⟩ : Shared).TypeIs (.ref C) "type" := ⟨_, hC, rfl⟩
  refine codeAny_of_tree ?_
  show wpAny _ _ (callAny (.ref C) _) _ _ _
  repeat (any_goals (first | assumption | with_reducible refine wpAny_loadPart_at hC ?_ | wp_step))
  refine ⟨rfl, ?_⟩
  refine codeAny_call_builtin_at (Code.quiet_builtin _ (by decide +kernel)) entry_typeCall (wpAny_check_type_call_sub hC (type_call_kw F hB hA hN hC hi hb hrest ?_))
  refine codeAny_mono hq fun r s' z => ?_
  rcases r with e | (v | _ | _ | _) <;> exact z
end
section
variable {prog : Program} {w : World} {A : Around} {E : Value → Shared → Prop} {R : Result → Shared → Prop} {hp : Heap} {g : Array GenState} {d : Drawn} {t : Nat} {os : OsState}
theorem exc_osaG {K : W.Frag} {name : Str} {tk : Tok} {v : Value} {x C : Addr} {fv : Array Value} {cd : ClassData}
    (X : K.In hp) (hx : hp.get? x = some { cls := .ref C, data := .fields fv }) (hcd : W.clsIn K C = some cd) (hm : ∀ self, refuseLoop self "__setattr__" cd.mro = pure ()) (ne : cd.mro.isEmpty = false) (hob : cd.mro.contains (.type "object") = true) (hh : cd.hasDict = true) (ha : W.findIn K (.ref C) name = some none)
    (hq : ∀ h' tk' dx, (∀ b o, b ≠ x → hp.get? b = some o → h'.get? b = some o) → hp.objs.size ≤ dx → dx ≠ x → h'.get? x = some { cls := .ref C, dict := some dx, data := .fields fv } →
      h'.Ns1 dx (fun y => if y = name then some v else none) → R (.ok (.ret .none)) ⟨h', g, d, tk', os⟩) :
    codeAny (model prog w) A (.call (.builtin "object.__setattr__") ⟨[.ref x, .str name tk, v], []⟩) R ⟨hp, g, d, t, os⟩ := by
  have I : W.InstAt hp x { cls := .ref C, data := .fields fv } C none := ⟨hx, rfl, rfl, trivial⟩
  have SF := F.store_object
  have hxs : x ≠ hp.objs.size := Nat.ne_of_lt (Heap.lt_size hx)
  have sub : W.Looks (model prog w) hp (isInstance (.ref x) (.type "object")) true := I.type.andThen (W.looks_mroIn X (by unfold W.mroIn; rw [hcd, Option.bind_some, if_neg (by rw [ne]; decide), hob]))
  refine codeAny_call_builtin SF.slot.plain SF.entry (@W.check_slot (model prog w) _ _ ⟨hp, g, d, t, os⟩ "object.__setattr__" "object" "__setattr__" (.ref x) [.str name tk, v] [] _ SF.kind SF.split sub (SF.args (.ref x) (.str name tk) v) ?_)
  have hmr : W.Looks (model prog w) hp (mroOf (.ref C)) cd.mro := (W.looks_clsIn X hcd).andThen .now
  have L3 : W.Looks (model prog w) hp (storeTaker? none) none := .now
  have hcls : W.Looks (model prog w) hp (classData C) cd := W.looks_clsIn X hcd
  rw [W.osa_eq, refuse_eq]
  refine wpAny_bind (wpAny_bind (I.type.at (wpAny_bind (hmr.at ?_))))
  rw [hm]
  refine wpAny_pure (wpAny_bind (I.type.at (wpAny_bind ((W.looks_findIn X ha).at (wpAny_bind (L3.at ?_))))))
  show wpAny _ _ (storeInOwnDict (.ref x) (.ref C) (.str name tk) name v false) _ _ _
  obtain ⟨nm, bs, mro, ns, qn, hd, sn, sb, ab, col, del⟩ := cd
  dsimp only at hh
  subst hh
  unfold storeInOwnDict ownDictForStores
  repeat (first | with_reducible refine store_in_new ?_ ?_ | with_reducible refine wpAny_loadPart_at hx ?_ | with_reducible refine hcls.at ?_ | wp_step)
  · exact ⟨_, #[], _, (Heap.get?_update_ne _ _ _ _ hxs.symm).trans (Heap.get?_push_at rfl rfl), rfl, fun e he => absurd he (by simp), fun _ => rfl⟩
  · intro h' tk' hn' hs
    have hx₁ : (hp.push { cls := .type "dict", data := .dict #[] }).get? x = some { cls := .ref C, data := .fields fv } := Heap.get?_push_of_some _ hx
    refine hq h' tk' hp.objs.size (fun b o hb ho => ?_) (Nat.le_refl _) hxs.symm ?_ hn'
    · exact (hs.2 b (Nat.ne_of_lt (Heap.lt_size ho))).trans ((Heap.get?_update_ne _ _ _ _ hb).trans (Heap.get?_push_of_some _ ho))
    · exact (hs.2 x hxs).trans (Heap.get?_update_self _ hx₁ rfl)
end
end EV
namespace EV
open PySem PySem.W PySem.Calls PyProof.Rows PySem.HandSPX
section
variable {prog : Program} {w : World} {A : Around} {E : Value → Shared → Prop} {s : Shared} {K : Frag} {x D : Addr} {ox : Obj} {od : Option Obj}
theorem findObj_dataD {C : Addr} {name : Str} {a g : Value} (hc : (clsIn K C).isSome = true) (ha : findIn K (.ref C) name = some (some a)) (hg : specialIn K a "__get__" = some (some g)) (ht : takesIn K a = some true) : findObj K C od name = some (.bind g a) := by
  obtain ⟨cd, hc⟩ := Option.isSome_iff_exists.mp hc
  unfold findObj
  rw [hc, Option.bind_some, ha, Option.bind_some]
  cases od <;> simp [hg, ht]
theorem kin_classD {Q : Option Value → Shared → Prop} (hga : findIn K (.ref D) "__getattribute__" = some (some (.builtin "BaseException.__getattribute__"))) (hgt : findIn K (.ref D) "__getattr__" = some none) (hsub : subIn K (.ref D) (.type "BaseException") = some true)
    (hdct : hasDictIn K D = true) (ha : findIn K (.ref D) "__class__" = some (some (.builtin "object.__class__")))
    (hn : specialIn K (.builtin "object.__class__") "__get__" = some (some (.builtin "getset_descriptor.__get__"))) (htk : takesIn K (.builtin "object.__class__") = some true) (hm : mroIn K D (.type "object") = some true)
    (X : K.In s.heap) (I : InstAt s.heap x ox D od) (h : Q (some (.ref D)) { s with toks := s.toks + 1 }) : wpAny (model prog w) A (getAttr? (.ref x) "__class__") Q E s := by
  have hf : findObj K D od "__class__" = some (.bind (.builtin "getset_descriptor.__get__") (.builtin "object.__class__")) := findObj_dataD (by obtain ⟨cd, hc, _⟩ := any_some hdct; rw [hc]; rfl) ha hn htk
  obtain ⟨hp, g, d, t, os⟩ := s
  have L0 := I.type (M := model prog w)
  have L1 := looks_findIn (M := model prog w) X hga
  have L2 := looks_findIn (M := model prog w) X hgt
  have L3 := looks_find (M := model prog w) X I hf
  have sub : Looks (model prog w) hp (isInstance (.ref x) (.type "BaseException")) true := L0.andThen (looks_subIn X hsub)
  have hx0 : (false && onTheHeap (Value.builtin "BaseException.__getattribute__")) = false := rfl
  have hx2 : (Value.builtin "BaseException.__getattribute__" == Value.builtin "object.__getattribute__") = false := by decide +kernel
  have hx1 : (onTheHeap (Value.ref D) && Value.builtin "BaseException.__getattribute__" == Value.builtin "object.__getattribute__") = false := by rw [hx2]; rfl
  unfold getAttr? getAttrBy? getAttrBy
  refine wpAny_bind (wpAny_mkText (wpAny_bind (wpAny_attempt (wpAny_holding (wpAny_bind (L0.at (wpAny_bind (L1.at ?_))))))))
  show wpAny _ _ (if (onTheHeap (Value.ref D) && Value.builtin "BaseException.__getattribute__" == Value.builtin "object.__getattribute__") = true then _ else _) _ _ _
  rw [hx1, if_neg Bool.false_ne_true]
  unfold getAttrByItsOwn hookBefore
  refine wpAny_bind ?_
  rw [if_pos (show onTheHeap (Value.ref D) = true from rfl)]
  refine L2.at ?_
  refine wpAny_bind (wpAny_attempt (wpAny_holding ?_))
  unfold callGetattribute
  rw [hx0, if_neg Bool.false_ne_true]
  unfold boundAndCalled
  rw [PySem.F.excAttr_ValueError.ga.bind (.ref x)]
  refine wpAny_bind (wpAny_pure ?_)
  show wpAny _ _ (call (.builtin "BaseException.__getattribute__") [.ref x, .str "__class__" t]) _ _ _
  refine wpAny_call (codeAny_call_builtin PySem.F.excAttr_ValueError.ga.plain PySem.F.entry_bexc_ga ?_)
  refine @check_slot (model prog w) _ _ ⟨hp, g, d, t + 1, os⟩ "BaseException.__getattribute__" "BaseException" "__getattribute__" (.ref x) [.str "__class__" t] [] _ (by decide +kernel) (by decide +kernel) sub (PySem.F.args_bexc_ga (.ref x) (.str "__class__" t)) ?_
  unfold Builtin.«object.__getattribute__»
  refine wpAny_bind (wpAny_of_eq (a := ((Value.ref x : Value), [Value.str "__class__" t])) (by first | rfl | (simp only [slotArgs]; rfl)) ?_)
  refine wpAny_bind (wpAny_pure (wpAny_bind (L0.at (wpAny_bind (L3.at ?_)))))
  show wpAny _ _ (holding [Value.builtin "object.__class__"] (call (.builtin "getset_descriptor.__get__") [.builtin "object.__class__", .ref x, .ref D]) >>= ret) _ _ _
  refine wpAny_bind (wpAny_holding (wpAny_call (class_get (s := ⟨hp, g, d, t + 1, os⟩) (ox := ox) (od := od) X I hm ?_)))
  refine wpAny_pure ?_
  show wpAny _ _ (handedOut (.ref D)) _ _ _
  rw [handedOut_of (v := .ref D) rfl]
  first
    | exact wpAny_pure (wpAny_pure h)
    | exact wpAny_pure h
    | exact wpAny_pure (wpAny_bind (wpAny_pure (wpAny_pure h)))
theorem kitx_excD (hga : findIn K (.ref D) "__getattribute__" = some (some (.builtin "BaseException.__getattribute__"))) (hgt : findIn K (.ref D) "__getattr__" = some none) (hsub : subIn K (.ref D) (.type "BaseException") = some true) (hdct : hasDictIn K D = true) (ha : findIn K (.ref D) "__class__" = some (some (.builtin "object.__class__")))
    (hn : specialIn K (.builtin "object.__class__") "__get__" = some (some (.builtin "getset_descriptor.__get__"))) (htk : takesIn K (.builtin "object.__class__") = some true) (hm : mroIn K D (.type "object") = some true) :
    KitX K (.ref x) (.ref D) (fun h => InstAt h x ox D od) where
  ty := fun _ _ _ I => I.type
  it := fun _ _ X _ => by
    obtain ⟨cdD, hcD, _⟩ := any_some hdct
    unfold clsIn at hcD
    split at hcD
    · rename_i c' d' cd' sl' ho
      intro A' Q' E' s' k q
      unfold isType loadHead
      exact wpAny_bind (wpAny_loadPart (k _ _ (X _ _ ho)) (wpAny_pure q))
    · cases hcD
  ne := fun h tp dd its n sl X htp => by
    obtain ⟨cdD, hcD, _⟩ := any_some hdct
    refine Bool.eq_false_iff.mpr fun q => ?_
    have e : D = tp := Value.ref.inj (beq_iff_eq.mp q)
    subst e
    unfold clsIn at hcD
    split at hcD
    · rename_i c' d' cd' sl' ho
      have z := (X _ _ ho).symm.trans htp
      cases z
    · cases hcD
  ca := fun X I k => kin_classD hga hgt hsub hdct ha hn htk hm X I k
end
end EV
set_option maxHeartbeats 4000000
namespace LX
open PySem PySem.Spec PyProof.Rows L2 C8 SX
structure XC (K : PySem.W.Frag) (C : Addr) : Prop where
  obj : ∃ (tail bmF : List Value) (B newId initId : String), ExcBaseFacts B newId initId bmF ∧ PySem.W.excInitIn K C tail newId = true ∧ tail.contains (.type B) = true ∧ tail.contains (.type "AttributeError") = false ∧ tail.contains (.type "NameError") = false ∧
    tail.contains (.type "object") = true ∧ ∀ self, PySem.refuseLoop self "__setattr__" tail = pure ()
  hd : PySem.W.hasDictIn K C = true
  sa : PySem.W.findIn K (.ref C) "__setattr__" = some (some (.builtin "object.__setattr__"))
  ga : PySem.W.findIn K (.ref C) "__getattribute__" = some (some (.builtin "BaseException.__getattribute__"))
  gg : PySem.W.findIn K (.ref C) "__getattr__" = some none
  exC : PySem.W.subIn K (.ref C) (.type "BaseException") = some true
  tyC : PySem.W.typeIn K (.ref C) = some (.type "type")
  kC : PySem.W.keepIn K (.ref C) = true
  ha : PySem.W.findIn K (.ref C) "__class__" = some (some (.builtin "object.__class__"))
  hn : PySem.W.specialIn K (.builtin "object.__class__") "__get__" = some (some (.builtin "getset_descriptor.__get__"))
  ht : PySem.W.takesIn K (.builtin "object.__class__") = some true
  hm : PySem.W.mroIn K C (.type "object") = some true
def veT : List Value := [.type "ValueError", .type "Exception", .type "BaseException", .type "object"]
def keT : List Value := [.type "KeyError", .type "LookupError", .type "Exception", .type "BaseException", .type "object"]
theorem veT_pass (self : Value) : PySem.refuseLoop self "__setattr__" veT = pure () := HandSPX.refsVE_pass self veT (by decide +kernel)
theorem keT_pass (self : Value) : PySem.refuseLoop self "__setattr__" keT = pure () := by kernel_rfl
theorem XC.ve {K : PySem.W.Frag} {C : Addr} (q : PySem.W.excInitIn K C veT "ValueError.__new__" = true) (hd : PySem.W.hasDictIn K C = true) (sa : PySem.W.findIn K (.ref C) "__setattr__" = some (some (.builtin "object.__setattr__")))
    (ga : PySem.W.findIn K (.ref C) "__getattribute__" = some (some (.builtin "BaseException.__getattribute__"))) (gg : PySem.W.findIn K (.ref C) "__getattr__" = some none) (exC : PySem.W.subIn K (.ref C) (.type "BaseException") = some true) (tyC : PySem.W.typeIn K (.ref C) = some (.type "type"))
    (kC : PySem.W.keepIn K (.ref C) = true) (ha : PySem.W.findIn K (.ref C) "__class__" = some (some (.builtin "object.__class__"))) (hn : PySem.W.specialIn K (.builtin "object.__class__") "__get__" = some (some (.builtin "getset_descriptor.__get__"))) (ht : PySem.W.takesIn K (.builtin "object.__class__") = some true)
    (hm : PySem.W.mroIn K C (.type "object") = some true) : XC K C :=
  ⟨⟨veT, _, _, _, _, PySem.F.excBase_ValueError, q, by decide +kernel, by decide +kernel, by decide +kernel, by decide +kernel, veT_pass⟩, hd, sa, ga, gg, exC, tyC, kC, ha, hn, ht, hm⟩
theorem XC.ke {K : PySem.W.Frag} {C : Addr} (q : PySem.W.excInitIn K C keT "LookupError.__new__" = true) (hd : PySem.W.hasDictIn K C = true) (sa : PySem.W.findIn K (.ref C) "__setattr__" = some (some (.builtin "object.__setattr__")))
    (ga : PySem.W.findIn K (.ref C) "__getattribute__" = some (some (.builtin "BaseException.__getattribute__"))) (gg : PySem.W.findIn K (.ref C) "__getattr__" = some none) (exC : PySem.W.subIn K (.ref C) (.type "BaseException") = some true) (tyC : PySem.W.typeIn K (.ref C) = some (.type "type"))
    (kC : PySem.W.keepIn K (.ref C) = true) (ha : PySem.W.findIn K (.ref C) "__class__" = some (some (.builtin "object.__class__"))) (hn : PySem.W.specialIn K (.builtin "object.__class__") "__get__" = some (some (.builtin "getset_descriptor.__get__"))) (ht : PySem.W.takesIn K (.builtin "object.__class__") = some true)
    (hm : PySem.W.mroIn K C (.type "object") = some true) : XC K C :=
  ⟨⟨keT, _, _, _, _, PySem.F.excBase_LookupError, q, by decide +kernel, by decide +kernel, by decide +kernel, by decide +kernel, keT_pass⟩, hd, sa, ga, gg, exC, tyC, kC, ha, hn, ht, hm⟩
theorem XC.data {K : PySem.W.Frag} {C : Addr} (T : XC K C) : ∃ (nm q : Str) (N : Addr) (bs bm : List Value) (sn : List Str) (sub : List Value) (ab : Bool) (col : Option Bool) (dd : Option Addr) (k0 k1 k2 k3 k5 : Option Value) (B newId initId : String) (bmF : List Value),
    ExcBaseFacts B newId initId bmF ∧ K.lookup C = some (excClassObj nm q C N bs bm true sn sub ab col dd k0 k1 k2 k3 k5 newId) ∧ bm.contains (.type B) = true ∧ bm.contains (.type "AttributeError") = false ∧ bm.contains (.type "NameError") = false ∧
    (∀ self, PySem.refuseLoop self "__setattr__" (.ref C :: bm) = pure ()) ∧ (Value.ref C :: bm).contains (.type "object") = true := by
  obtain ⟨tail, bmF, B, newId, initId, F, q, hB, hA, hN, hO, hp⟩ := T.obj
  have hdct := T.hd
  unfold PySem.W.excInitIn at q
  unfold PySem.W.hasDictIn PySem.W.clsIn at hdct
  split at q
  · rename_i dd cd sl ho
    rw [ho] at hdct
    split at q
    · rename_i C' bm k0 k1 k2 k3 n k5 hm hs
      simp only [Bool.and_eq_true, beq_iff_eq, Bool.not_eq_true'] at q
      obtain ⟨⟨⟨rfl, rfl⟩, hdel⟩, ht⟩ := q
      obtain ⟨nm, bs, mro, ns, qn, hd, sn, sub, ab, col, del⟩ := cd
      have hdct : hd = true := hdct
      dsimp only at hm hdel
      subst hm hdel hdct
      have hsl : sl = #[k0, k1, k2, k3, some (.builtin n), k5] := by
        obtain ⟨l⟩ := sl
        simp only at hs
        rw [hs]
      subst hsl
      have hT : ∀ X : String, bm.contains (.type X) = tail.contains (.type X) := fun X => PySem.W.excTail_contains X _ ht
      refine ⟨nm, qn, ns, bs, bm, sn, sub, ab, col, dd, k0, k1, k2, k3, k5, B, n, initId, bmF, F, ho, (hT _).trans hB, (hT _).trans hA, (hT _).trans hN, fun self => ?_, ?_⟩
      · exact PySem.W.excTail_pass self (hp self) _ ht
      · rw [List.contains_cons, hT, hO, Bool.or_true]
    · cases q
  · cases q
section
variable {X : Cx} {pins : List (Addr × Obj)} {σ : L2.St} {H : Hp} {s : Shared} {a C dx : Addr} {f : Str} {y : V} {u : Value} {Q : Unit → Shared → Prop} {E : Value → Shared → Prop} {A : Around}
theorem ost_newG (T : XC X.K C) (I : Inv X pins σ H s) (e : H a = some (exo a C none)) (hno : PySem.W.findIn X.K (.ref C) f = some none) (ry : RelV y u)
    (h : ∀ dx s', H dx = none → dx ≠ a → Inv X pins σ (upd (upd H dx (exd dx [(f, y)])) a (exo a C (some dx))) s' → Q () s') : wpAny (model X.prog X.w) A (setAttr (.ref a) f u) Q E s := by
  obtain ⟨nm, q, N, bs, bm, sn, sub, ab, col, dd, k0, k1, k2, k3, k5, B, newId, initId, bmF, F, hC, hB, hA, hN, hp0, hob⟩ := T.data
  have hcl : PySem.W.clsIn X.K C = some { name := nm, bases := bs, mro := .ref C :: bm, ns := N, qualname := q, hasDict := true, slotNames := sn, subclasses := sub, abstract := ab, collection := col, hasDel := false } := by unfold PySem.W.clsIn; rw [hC] <;> rfl
  obtain ⟨t1, ho⟩ := exo_at I.hok e
  obtain ⟨hp, g, d, t, os⟩ := s
  refine PySem.W.set_plain I.kIn (ox := { cls := .ref C, dict := none, data := .fields #[.ref t1, .none, .none, .none, .bool false, .none] }) (od := none) ⟨ho, rfl, rfl, trivial⟩ T.sa ?_
  refine EV.exc_osaG I.kIn ho hcl hp0 rfl hob rfl hno (fun h' tk' dx k dn dne hx hn => ?_)
  have hnd : H dx = none := I.hok.fresh dn
  have nd : ∀ {b : Addr} {o : Obj}, hp.get? b = some o → b ≠ dx := fun {b o} q => Nat.ne_of_lt (Nat.lt_of_lt_of_le (Heap.lt_size q) dn)
  have na : ∀ {b : Addr}, H b = none → b ≠ a := fun {b} n z => by
    rw [z, e] at n
    cases n
  have Un1 : Un X.fs [] H (upd (upd H dx (exd dx [(f, y)])) a (exo a C (some dx))) hp h' := {
    keep := fun b o q n _ _ => k b o (na n) q
    slot := fun b o q n _ _ => ⟨o.slots, k b o (na n) q⟩
    free := fun b o q n _ => by rw [upd_ne (na n), upd_ne (nd q)]; exact n
    there := fun b o q _ => by
      by_cases hb : b = a
      · exact ⟨_, by rw [hb]; exact hx⟩
      · exact ⟨o, k b o hb q⟩
    tups := fun b xs q => by rw [upd_ne (at_ne e q exo_tup), upd_ne (ne_of_none q hnd)]; exact q
    frzs := fun b o v q => by rw [upd_ne (at_ne e q exo_frz), upd_ne (ne_of_none q hnd)]; exact q
    tbls := fun b ps q => ⟨#[], by rw [upd_ne (at_ne e q exo_tbl), upd_ne (ne_of_none q hnd), q]; simp⟩ }
  refine h dx _ hnd dne (I.un (t' := tk') Un1 fun b o q => ?_)
  by_cases hb : b = a
  · subst hb
    rw [upd_same] at q
    cases q
    exact exo_ok hx
  · rw [upd_ne hb] at q
    by_cases hd : b = dx
    · subst hd
      rw [upd_same] at q
      cases q
      exact exd_ok hn (relO_put (fs := []) ry fun g => True.intro)
    · rw [upd_ne hd] at q
      exact (I.hok b o q).stay (fun c v hc z => k c v (by
          rcases hc with hc | hc
          · rw [hc]
            exact hb
          · exact at_ne e hc exo_own) z)
        (fun c hc => by rw [upd_ne (at_ne e hc exo_own), upd_ne (ne_of_none hc hnd)]; exact hc) (fun c xs hc => by rw [upd_ne (at_ne e hc exo_tup), upd_ne (ne_of_none hc hnd)]; exact hc)
end
def tOstG (K : PySem.W.Frag) (f : Str) (to te : TE) : TS := fun D σ H => te σ H fun y H1 => to σ H1 fun x H2 => ∃ a C : Addr, x = .ref a ∧ XC K C ∧ PySem.W.findIn K (.ref C) f = some none ∧
  H2 a = some (exo a C none) ∧ ∀ dx, H2 dx = none → dx ≠ a → D.nx σ (upd (upd H2 dx (exd dx [(f, y)])) a (exo a C (some dx)))
section
variable {X : Cx} {o e : Expr} {es : List Expr} {to te : TE} {ta : TA} {f : Str} {p p' p1 p2 pos : Pos}
theorem ps_ostG (ho : PE X o to) (he : PE X e te) (hs : swapsWith e (some (.Attribute o f p')) pos.line X.env = pure false := by rfl) : PS X (.Assign [.Attribute o f p'] e pos) (tOstG X.K f to te) := by
  refine ⟨fun pins s σ H D I h => ?_⟩
  refine plainObj_wpAny_Assign_Attribute (thn (he.run pins s σ H _ I h) fun v s1 ⟨y, H1, I1, r1, q1⟩ => thn (ho.run pins s1 σ H1 _ I1 q1) fun u s2 ⟨x, H2, I2, r2, a, C, ex, T, hno, ea, q⟩ => ?_) hs
  subst ex
  obtain rfl : u = Value.ref a := r2
  exact ost_newG T I2 ea hno r1 fun dx s' n ne J => ⟨σ, _, J, q dx n ne⟩
theorem pmk_xc {CX : CXT} {x : Str} {C fI : Addr} {k : Nat} {fd : FuncData} {ps : List Str} {sp : Sp} {ds : List Value} {dvs : List V} (T : XC X.K C) (iC : PySem.W.findIn X.K (.ref C) "__init__" = some (some (.ref fI))) (tI : PySem.W.typeIn X.K (.ref fI) = some (.type "function"))
    (F1 : FnOk X.prog X.w X.K X.mg X.base CX k fI fd ps sp) (hr : Room (k + 1) X.A) (hb : Binds X.K fd ps ds) (hd : Vals dvs ds) (hx : Passes CX X (fun _ _ _ => False)) (hg : Gl X x) (hm : X.mg x = some (.ref C)) (ha : PA X (e :: es) ta)
    (hdb : (x == ("__debug__" : Str)) = false := by decide) (he : starEach (e :: es) X.env = (false, eval e X.env) :: starEach es X.env := by rfl) (hpl : (backTo pos (starEach es X.env)).any (·.1) = false := by rfl) :
    PMk X (.Call (.Name x p) (e :: es) [] pos) (tMkO C sp dvs ta) := by
  intro pins s σ H Q I h
  obtain ⟨nm, q, N, bs, bm, sn, sub, ab, col, dd, k0, k1, k2, k3, k5, B, newId, initId, bmF, F, hC, hB, hA, hN, hp0, hob⟩ := T.data
  refine wpAny_Call_Name_kw (ld_glob I hg hm ?_ hdb)
  refine PySem.W.callWith_K (h₀ := X.base) I.ok.mod.kin T.kC (thn (ha.run pos pins s σ H _ I h) fun us s1 ⟨vs, H1, I1, r1, hz, q1⟩ => ⟨I1.kIn, ?_⟩) he hpl
  show wpAny _ _ (call (.ref C) us) _ _ _
  obtain ⟨hp, g, dr, tk, os⟩ := s1
  have hsz : hp.objs.size ≤ hp.objs.size + 1 := Nat.le_succ _
  have hn : H1 (hp.objs.size + 1) = none := I1.hok.fresh hsz
  have hq := q1 (hp.objs.size + 1) hn
  have kk : ∀ b o, hp.get? b = some o → ((hp.push (PySem.W.kdv_tup us)).push (PySem.HandSPX.excO C hp.objs.size)).get? b = some o := fun b o e => Heap.get?_push_of_some _ (Heap.get?_push_of_some _ e)
  have hget : ((hp.push (PySem.W.kdv_tup us)).push (PySem.HandSPX.excO C hp.objs.size)).get? (hp.objs.size + 1) = some (PySem.HandSPX.excO C hp.objs.size) := by heap_get
  have I2 : Inv X pins σ (upd H1 (hp.objs.size + 1) (exo (hp.objs.size + 1) C none)) ⟨(hp.push (PySem.W.kdv_tup us)).push (PySem.HandSPX.excO C hp.objs.size), g, dr, tk, os⟩ :=
    I1.laid (t' := tk) (a := hp.objs.size + 1) (o := exo (hp.objs.size + 1) C none) (h' := (hp.push (PySem.W.kdv_tup us)).push (PySem.HandSPX.excO C hp.objs.size)) kk hsz (exo_ok hget)
  have r2 : Vals (V.ref (hp.objs.size + 1) :: (vs ++ dvs)) (Value.ref (hp.objs.size + 1) :: (us ++ ds)) := .cons rfl (r1.append hd)
  have hl : (Value.ref (hp.objs.size + 1) :: us ++ ds).length = ps.length := by
    have e := r2.length
    rw [F1.len _ _ _ _ hq] at e
    exact e.symm
  have hus : us.length ≤ sizeLine := by
    rw [← Paired.length r1, sizeLine_eq]
    omega
  refine wpAny_call (EV.call_kw (kw := []) F hB hA hN (I1.kIn _ _ hC) (PySem.W.looks_findIn I1.kIn iC) (fun self => PySem.W.bind_fn I1.kIn self tI) hus
    (codeAny_mono (F1.run _ X.stack _ _ ⟨Value.ref (hp.objs.size + 1) :: us, []⟩ (Value.ref (hp.objs.size + 1) :: (us ++ ds)) _ _ (fun _ _ _ => False) (hr.make C us []) (I2.env0.make C us []) (hb _ (Value.ref (hp.objs.size + 1) :: us) I2.kIn hl) r2 hq) fun r s' hq' => ?_))
  cases r with
  | error er => exact hx pins σ _ _ er s' I2 hq'
  | ok fl =>
    cases fl with
    | ret u =>
      obtain ⟨v, H2, os2, bare2, un2, hok2, rv, ev, d, fs, ea, ed, hd1, q2⟩ := hq'
      subst ev
      obtain ⟨h2, g2, d2, t2, os'⟩ := s'
      exact ⟨rv, mk_end (raises_own T.exC T.tyC) I1 hsz kk un2 hok2 os2 bare2 ea ed hd1 q2⟩
    | next => exact False.elim hq'
    | brk => exact False.elim hq'
    | cont => exact False.elim hq'
theorem pmk_own0 {C : Addr} {bmB : List Value} {B newId initId : String} {x : Str} {p pos : Pos} (F : ExcBaseFacts B newId initId bmB) (q : PySem.W.excIn X.K C bmB newId = true) (gC : X.mg x = some (.ref C)) (kC : PySem.W.keepIn X.K (.ref C) = true) (r : Raises X (.ref C)) (hg : Gl X x)
    (hdb : (x == ("__debug__" : Str)) = false := by decide) : PMk X (.Call (.Name x p) [] [] pos) (fun σ H Q => Q (.ref C) none H) := by
  intro pins s σ H Q I h
  refine wpAny_Call_Name_kw (ld_glob I hg gC ?_ hdb)
  refine PySem.W.callWith_K0 I.kIn kC ?_
  show wpAny _ _ (call (.ref C) []) _ _ _
  obtain ⟨bm, N, nm, qn, bs, hdct, sn, sub, ab, col, dd, k0, k1, k2, k3, k5, mN, hC, hN, hni, T⟩ := exc_obj I.kIn q
  refine wpAny_call_exc_subT F T hC hN hni (fun h' e hm => ?_) (by show 0 ≤ sizeLine; exact Nat.zero_le _)
  exact mk_of I hm r h (I.hok.gone hm.new)
end
def rIsX (K : PySem.W.Frag) (a : Addr) (cls : Value) (d : Option Addr) : List V → Hp → VK → Prop := fun xs H Q => ∃ (D : Addr) (c : V) (cv : Value) (b : Bool), cls = .ref D ∧ ExcC K D ∧ xs = [.ref a, c] ∧ (∀ u, RelV c u → u = cv) ∧ PySem.W.kitOne K (.ref D) cv = some b ∧
  (d = none ∨ ∃ dd fs, d = some dd ∧ H dd = some (.xd fs)) ∧ Q (.bl b) H
theorem call_isX {X : Cx} {a : Addr} {cls : Value} {d : Option Addr} {oe : Obj} {pn : List (Addr × Obj)} (hz : Zc cls d oe) (hf : ∃ vs, oe.data = .fields vs) : CallR (X.suite a ((a, oe) :: pn)) (.builtin "isinstance") (rIsX X.K a cls d) := by
  intro pins s σ H xs us Q I r h
  obtain ⟨D, c, cv, b, ecls, C, rfl, hcv, e, hd, q⟩ := h
  subst ecls
  cases r with
  | cons rx rr =>
    cases rr with
    | cons rt rr =>
      cases rr
      cases rx
      have ec := hcv _ rt
      subst ec
      obtain ⟨hget, _⟩ := I.pin (a, oe) (List.mem_append.mpr (.inl List.mem_cons_self))
      obtain ⟨vs, hv⟩ := hf
      have J : ∃ od : Option Obj, PySem.W.InstAt s.heap a oe D od := by
        obtain ⟨oc, od, oda, osl⟩ := oe
        obtain ⟨h1, h2⟩ := hz
        dsimp only at h1 h2 hv
        subst h1 h2 hv
        rcases hd with rfl | ⟨dd, fs, rfl, hdd⟩
        · exact ⟨none, hget, rfl, rfl, trivial⟩
        · have hx : ObjOk X.prog X.w H s.heap dd (.xd fs) := I.hok dd _ hdd
          obtain ⟨mA, hns, _⟩ := hx
          obtain ⟨o, _, _, ho, _⟩ := hns
          exact ⟨some o, hget, rfl, rfl, ho⟩
      obtain ⟨od, J⟩ := J
      exact PySem.W.kia_one (EV.kitx_excD (od := od) C.hg C.hk C.hs C.hd C.ha C.hn C.ht C.hm) I.kIn J e (fun z => nomatch z) fun tk => ⟨.bl b, H, I.kept (t' := tk) fun _ _ z => z, rfl, q⟩
theorem XC.exc {K : PySem.W.Frag} {C : Addr} (T : XC K C) : ExcC K C := ⟨T.ga, T.gg, T.exC, T.hd, T.ha, T.hn, T.ht, T.hm⟩
theorem XC.xf {K : PySem.W.Frag} {C : Addr} (T : XC K C) : XfC K C := ⟨T.ga, T.gg, T.exC, T.hd⟩
theorem XC.raises {X : Cx} {C : Addr} (T : XC X.K C) : Raises X (.ref C) := raises_own T.exC T.tyC
theorem XC.exm {K : PySem.W.Frag} {C : Addr} {cls : Value} {b : Bool} (T : XC K C) (h : PySem.W.subIn K cls (.ref C) = some b) : PySem.W.exmOne K cls (.ref C) = some b := PySem.W.exm_ref T.exC T.hd T.tyC h
end LX
set_option maxHeartbeats 4000000
namespace LX
open PySem PySem.Spec PyProof.Rows L2 C8 SX
section
variable {P : Program} {w : World} {K : PySem.W.Frag} {mg : Str → Option Value} {base : Heap}
theorem fnX {x qual : Str} {st : Stmt} {f : Addr} {fd : FuncData} {N ps : List Str} {k : Nat} {sp : Sp} (F : C8.Fun K x qual st f fd) (S : FnScope N ps (C8.fnScope st)) (len : ∀ vs H Q E, sp vs H Q E → vs.length = ps.length)
    (hbody : ∀ (cdv : Value) (A : Around) (outer : List Env) (s : Shared) (H : Hp) (vs : List V) (Q : VK) (E : XK), Room k (A.deeper (envOfC qual (C8.fnScope st) s.heap.objs.size f cdv)) → sp vs H Q E →
      ∃ t, PSs (cxOf (L2.CX P w) P w K mg base N qual (C8.fnScope st) f cdv A outer s H E) (C8.fnBody st) t ∧ t { nx := fun _ H' => Q .non H', rt := Q } (L2.start N vs) H) : FnOk P w K mg base (L2.CX P w) (k + 1) f fd ps sp := by
  obtain ⟨oc, od, dV, kV, doc, pm, an, cdv, ct, osl, rfl, lk, hcd⟩ := F.ex
  exact fn_of lk hcd S len fun A outer s H vs Q E hr hsp => hbody cdv A outer s H vs Q E hr hsp
structure CalX (P : Program) (w : World) (K : PySem.W.Frag) (mg : Str → Option Value) (base : Heap) (k : Nat) (x : Str) (sp : Sp) : Prop where
  ex : ∃ (f : Addr) (fd : FuncData) (ps : List Str), FnOk P w K mg base (L2.CX P w) k f fd ps sp ∧ mg x = some (.ref f) ∧ PySem.W.keepIn K (.ref f) = true ∧ Binds K fd ps []
structure MetX (P : Program) (w : World) (K : PySem.W.Frag) (mg : Str → Option Value) (base : Heap) (k : Nat) (C : Addr) (m : Str) (sp : Sp) : Prop where
  ex : ∃ (f : Addr) (fd : FuncData) (ps : List Str), Cls K C ∧ Meth K C m f ∧ FnOk P w K mg base (L2.CX P w) k f fd ps sp ∧ Binds K fd ps []
structure MakX (P : Program) (w : World) (K : PySem.W.Frag) (mg : Str → Option Value) (base : Heap) (k : Nat) (x : Str) (C : Addr) (sp : Sp) : Prop where
  ex : ∃ (f : Addr) (fd : FuncData) (ps : List Str), Mk K C f ∧ FnOk P w K mg base (L2.CX P w) k f fd ps sp ∧ mg x = some (.ref C) ∧ Binds K fd ps []
structure RaiX (P : Program) (w : World) (K : PySem.W.Frag) (mg : Str → Option Value) (base : Heap) (k : Nat) (x : Str) (C : Addr) (sp : Sp) : Prop where
  ex : ∃ (f : Addr) (fd : FuncData) (ps : List Str), XC K C ∧ PySem.W.findIn K (.ref C) "__init__" = some (some (.ref f)) ∧ PySem.W.typeIn K (.ref f) = some (.type "function") ∧ FnOk P w K mg base C8.CX0 k f fd ps sp ∧ mg x = some (.ref C) ∧ Binds K fd ps []
theorem calX {x : Str} {st : Stmt} {f : Addr} {fd : FuncData} {N ps : List Str} {k : Nat} {sp : Sp} (F : Def K mg x st f fd) (b : Binds K fd ps []) (S : FnScope N ps (C8.fnScope st)) (len : ∀ vs H Q E, sp vs H Q E → vs.length = ps.length)
    (hbody : ∀ (cdv : Value) (A : Around) (outer : List Env) (s : Shared) (H : Hp) (vs : List V) (Q : VK) (E : XK), Room k (A.deeper (envOfC x (C8.fnScope st) s.heap.objs.size f cdv)) → sp vs H Q E →
      ∃ t, PSs (cxOf (L2.CX P w) P w K mg base N x (C8.fnScope st) f cdv A outer s H E) (C8.fnBody st) t ∧ t { nx := fun _ H' => Q .non H', rt := Q } (L2.start N vs) H) : CalX P w K mg base (k + 1) x sp :=
  ⟨f, fd, ps, fnX F.fn S len hbody, F.mgf, F.kp, b⟩
theorem metX {m qual : Str} {C : Addr} {st : Stmt} {f : Addr} {fd : FuncData} {N ps : List Str} {k : Nat} {sp : Sp} (c : Cls K C) (me : Meth K C m f) (F : C8.Fun K m qual st f fd) (b : Binds K fd ps []) (S : FnScope N ps (C8.fnScope st)) (len : ∀ vs H Q E, sp vs H Q E → vs.length = ps.length)
    (hbody : ∀ (cdv : Value) (A : Around) (outer : List Env) (s : Shared) (H : Hp) (vs : List V) (Q : VK) (E : XK), Room k (A.deeper (envOfC qual (C8.fnScope st) s.heap.objs.size f cdv)) → sp vs H Q E →
      ∃ t, PSs (cxOf (L2.CX P w) P w K mg base N qual (C8.fnScope st) f cdv A outer s H E) (C8.fnBody st) t ∧ t { nx := fun _ H' => Q .non H', rt := Q } (L2.start N vs) H) : MetX P w K mg base (k + 1) C m sp :=
  ⟨f, fd, ps, c, me, fnX F S len hbody, b⟩
theorem makX {x qual : Str} {C : Addr} {st : Stmt} {f : Addr} {fd : FuncData} {N ps : List Str} {k : Nat} {sp : Sp} (M : Mk K C f) (hm : mg x = some (.ref C)) (F : C8.Fun K "__init__" qual st f fd) (b : Binds K fd ps []) (S : FnScope N ps (C8.fnScope st)) (len : ∀ vs H Q E, sp vs H Q E → vs.length = ps.length)
    (hbody : ∀ (cdv : Value) (A : Around) (outer : List Env) (s : Shared) (H : Hp) (vs : List V) (Q : VK) (E : XK), Room k (A.deeper (envOfC qual (C8.fnScope st) s.heap.objs.size f cdv)) → sp vs H Q E →
      ∃ t, PSs (cxOf (L2.CX P w) P w K mg base N qual (C8.fnScope st) f cdv A outer s H E) (C8.fnBody st) t ∧ t { nx := fun _ H' => Q .non H', rt := Q } (L2.start N vs) H) : MakX P w K mg base (k + 1) x C sp :=
  ⟨f, fd, ps, M, fnX F S len hbody, hm, b⟩
theorem raiX {x qual : Str} {C : Addr} {st : Stmt} {f : Addr} {fd : FuncData} {N ps : List Str} {k : Nat} {sp : Sp} (T : XC K C) (iC : PySem.W.findIn K (.ref C) "__init__" = some (some (.ref f))) (tI : PySem.W.typeIn K (.ref f) = some (.type "function")) (hm : mg x = some (.ref C)) (F : C8.Fun K "__init__" qual st f fd) (b : Binds K fd ps []) (S : FnScope N ps (C8.fnScope st)) (len : ∀ vs H Q E, sp vs H Q E → vs.length = ps.length)
    (hbody : ∀ (cdv : Value) (A : Around) (outer : List Env) (s : Shared) (H : Hp) (vs : List V) (Q : VK) (E : XK), Room k (A.deeper (envOfC qual (C8.fnScope st) s.heap.objs.size f cdv)) → sp vs H Q E →
      ∃ t, PSs (cxOf C8.CX0 P w K mg base N qual (C8.fnScope st) f cdv A outer s H E).nox (C8.fnBody st) t ∧ t { nx := fun _ H' => Q .non H', rt := Q } (L2.start N vs) H) : RaiX P w K mg base (k + 1) x C sp :=
  ⟨f, fd, ps, T, iC, tI, fn0 F S len hbody, hm, b⟩
end
def tMethS (C : Addr) (m : Str) (sp : Sp) (E : L2.St → XK) (ta : TE) (t : TA) : TE := fun σ H Q => ta σ H fun x H1 => ∃ a dx fs, x = .ref a ∧ H1 a = some (.ins C dx fs) ∧ fs.lookup m = none ∧ t σ H1 fun vs H2 => sp (x :: vs) H2 Q (E σ)
def tMakeS (C : Addr) (sp : Sp) (E : L2.St → XK) (t : TA) : TE := fun σ H Q => t σ H fun vs H1 => ∀ x dx, H1 x = none → H1 dx = none → dx ≠ x → sp (.ref x :: vs) (upd (upd H1 dx (.own x)) x (.ins C dx [])) (fun v H2 => v = .non ∧ Q (.ref x) H2) (E σ)
section
variable {X : Cx} {k j : Nat} {f C : Addr} {sp : Sp} {W : WX} {x m : Str} {p pos apos : Pos} {e o : Expr} {es : List Expr} {ta : TE} {t : TA}
theorem pe_cX (c : CalX X.prog X.w X.K X.mg X.base k x sp) (tk : Takes X W) (hr : Room j X.A) (hk : k ≤ j) (hg : Gl X x) (ha : PA X (e :: es) t) (hdb : (x == ("__debug__" : Str)) = false := by decide)
    (he : starEach (e :: es) X.env = (false, eval e X.env) :: starEach es X.env := by rfl) (hpl : (backTo pos (starEach es X.env)).any (·.1) = false := by rfl) : PE X (.Call (.Name x p) (e :: es) [] pos) (tCallS sp (WE W) t) := by
  obtain ⟨f, fd, ps, F, hm, kp, b⟩ := c.ex
  exact pe_callS F (hr.mono hk) hg hm kp b (fun σ => passAt tk σ) ha hdb he hpl
theorem pe_mtX {pl : Sem Bool} (c : MetX X.prog X.w X.K X.mg X.base k C m sp) (tk : Takes X W) (hr : Room j X.A) (hk : k ≤ j) (he : PE X o ta) (ha : PA X (e :: es) t)
    (hst : starEach (e :: es) X.env = (false, eval e X.env) :: starEach es X.env := by rfl) (hpl : (backTo pos (starEach es X.env)).any (·.1) = false := by rfl)
    (ht : eval (.Call (.Attribute o m apos) (e :: es) [] pos) X.env = (do
      let ov ← eval o X.env
      standAt apos.atName
      let (f, first) ← holding [ov] (getMethod ov m pl)
      callWith pos f first (backTo pos (starEach (e :: es) X.env)) (backToKw pos (keywordEach [] X.env))) := by rfl) :
    PE X (.Call (.Attribute o m apos) (e :: es) [] pos) (tMethS C m sp (WE W) ta t) := by
  obtain ⟨f, fd, ps, cl, hm, F, hb⟩ := c.ex
  refine ⟨fun pins s σ H Q I h => ?_⟩
  refine PySem.W.methodCall_KW (pl := pl) (thn (he.run pins s σ H _ I h) fun u s1 ⟨x, H1, I1, rx, a, dx, fs, ex, ea, l, q⟩ => ?_) ht
  subst ex
  obtain rfl : u = Value.ref a := rx
  refine getmeth_ok I1 ea cl hm l ?_
  refine PySem.W.callWith_K (first := [.ref a]) (h₀ := X.base) I.ok.mod.kin hm.kp (thn (ha.run pos pins s1 σ H1 _ I1 q) fun us s2 ⟨vs, H2, I2, r, q2⟩ => ⟨I2.kIn, ?_⟩) hst hpl
  exact run_fnS (us := .ref a :: us) (vs := .ref a :: vs) F (hr.mono hk) hb (passAt tk σ) I2 (.cons rfl r) q2
theorem pe_mkX (c : MakX X.prog X.w X.K X.mg X.base k x C sp) (tk : Takes X W) (hr : Room j X.A) (hk : k + 1 ≤ j) (hg : Gl X x) (ha : PA X (e :: es) t) (hdb : (x == ("__debug__" : Str)) = false := by decide)
    (he : starEach (e :: es) X.env = (false, eval e X.env) :: starEach es X.env := by rfl) (hpl : (backTo pos (starEach es X.env)).any (·.1) = false := by rfl) : PE X (.Call (.Name x p) (e :: es) [] pos) (tMakeS C sp (WE W) t) := by
  obtain ⟨f, fd, ps, M, F, hm, hb⟩ := c.ex
  refine ⟨fun pins s σ H Q I h => ?_⟩
  refine wpAny_Call_Name_kw (ld_glob I hg hm ?_ hdb)
  refine PySem.W.callWith_K (h₀ := X.base) I.ok.mod.kin M.kp (thn (ha.run pos pins s σ H _ I h) fun us s1 ⟨vs, H1, I1, r, q⟩ => ⟨I1.kIn, ?_⟩) he hpl
  have hq := q (s1.heap.objs.size + 1) s1.heap.objs.size (I1.hok.fresh (Nat.le_succ _)) (I1.hok.fresh (Nat.le_refl _)) (Nat.ne_of_lt (Nat.lt_succ_self _))
  have I2 := Inv.made (C := C) I1
  have r2 : Vals (V.ref (s1.heap.objs.size + 1) :: vs) (Value.ref (s1.heap.objs.size + 1) :: us) := .cons rfl r
  have hl : (Value.ref (s1.heap.objs.size + 1) :: us ++ []).length = ps.length := by
    have e := r2.length
    rw [F.len _ _ _ _ hq] at e
    rw [List.append_nil]
    exact e.symm
  have hb2 := hb _ (Value.ref (s1.heap.objs.size + 1) :: us) I2.kIn hl
  rw [List.append_nil] at hb2
  refine wpAny_call (make_map (f := f) I1.kIn M.makes M.init (beq_iff_eq.mp M.fn) (codeAny_mono (F.run _ X.stack _ _ ⟨Value.ref (s1.heap.objs.size + 1) :: us, []⟩ (Value.ref (s1.heap.objs.size + 1) :: us) _ _ (WE W σ) ((hr.mono hk).make C us [])
    (I2.env0.make C us []) hb2 r2 hq) fun r s' hq' => ?_))
  cases r with
  | error e => exact passAt tk σ pins _ _ e s' I2 hq'
  | ok fl =>
    cases fl with
    | ret u =>
      obtain ⟨v, H', I3, rv, ev, q3⟩ := I2.after hq'
      subst ev
      exact ⟨rv, ⟨V.ref (s1.heap.objs.size + 1), H', I3, rfl, q3⟩⟩
    | next => exact False.elim hq'
    | brk => exact False.elim hq'
    | cont => exact False.elim hq'
theorem pmk_rai (c : RaiX X.prog X.w X.K X.mg X.base k x C sp) (hr : Room j X.A) (hk : k + 1 ≤ j) (hg : Gl X x) (ha : PA X (e :: es) t) (hdb : (x == ("__debug__" : Str)) = false := by decide)
    (he : starEach (e :: es) X.env = (false, eval e X.env) :: starEach es X.env := by rfl) (hpl : (backTo pos (starEach es X.env)).any (·.1) = false := by rfl) : PMk X (.Call (.Name x p) (e :: es) [] pos) (tMkO C sp [] t) := by
  obtain ⟨f, fd, ps, T, iC, tI, F, hm, b⟩ := c.ex
  exact pmk_xc T iC tI F (hr.mono hk) b .nil C8.pass0 hg hm ha hdb he hpl
end
def wManyA (K : PySem.W.Frag) (Wout : WX) (D : Ends) : List (Value × Option Nat × (Addr → Value → Option Addr → TS)) → WX
  | [] => Wout
  | (c, none, ts) :: r => fun cls d σ H => ∃ b, PySem.W.exmOne K cls c = some b ∧ (b = true → ∀ a, H a = none → ts a cls d D σ H) ∧ (b = false → wManyA K Wout D r cls d σ H)
  | (c, some i, ts) :: r => fun cls d σ H => ∃ b, PySem.W.exmOne K cls c = some b ∧ (b = true → ∀ a, H a = none → ts a cls d { nx := fun σ' H' => D.nx (σ'.set i none) H', rt := D.rt, bk := fun σ' H' => D.bk (σ'.set i none) H', ct := fun σ' H' => D.ct (σ'.set i none) H' } (σ.set i (some (.ref a))) H) ∧
      (b = false → wManyA K Wout D r cls d σ H)
inductive HdsA (X : Cx) : List ExceptHandler → List (Value × Option Nat × (Addr → Value → Option Addr → TS)) → Prop
  | nil : HdsA X [] []
  | cons {x : Str} {c : Value} {ts : Addr → Value → Option Addr → TS} {b₀ : Stmt} {suite : List Stmt} {np pos' : Pos} {hds : List ExceptHandler} {l : List (Value × Option Nat × (Addr → Value → Option Addr → TS))} (hc : Names X x c)
      (hsu : ∀ (a : Addr) (oe : Obj) (cls : Value) (d : Option Addr) (pn : List (Addr × Obj)), Zc cls d oe → (∃ vs, oe.data = .fields vs) → PSs (X.suite a ((a, oe) :: pn)) (b₀ :: suite) (ts a cls d)) (r : HdsA X hds l) :
      HdsA X (.ExceptHandler (some (.Name x np)) none (b₀ :: suite) pos' :: hds) ((c, none, ts) :: l)
  | consA {x n : Str} {i : Nat} {c : Value} {ts : Addr → Value → Option Addr → TS} {b₀ : Stmt} {suite : List Stmt} {np pos' : Pos} {hds : List ExceptHandler} {l : List (Value × Option Nat × (Addr → Value → Option Addr → TS))} (hi : X.N[i]? = some n) (hln : X.env.kindOf n = some .local) (hc : Names X x c)
      (hsu : ∀ (a : Addr) (oe : Obj) (cls : Value) (d : Option Addr) (pn : List (Addr × Obj)), Zc cls d oe → (∃ vs, oe.data = .fields vs) → PSs (X.suite a ((a, oe) :: pn)) (b₀ :: suite) (ts a cls d)) (r : HdsA X hds l) :
      HdsA X (.ExceptHandler (some (.Name x np)) (some n) (b₀ :: suite) pos' :: hds) ((c, some i, ts) :: l)
section
variable {X : Cx} {body : List Stmt} {h₀ : ExceptHandler} {hds : List ExceptHandler} {l : List (Value × Option Nat × (Addr → Value → Option Addr → TS))} {pos : Pos} {tb : WX → TS} {Wout : WX}
theorem ps_try_manyA (hs : X.stack = X.env :: X.outer) (hf : X.env.frame = some X.env.locals) (hN : X.N.Nodup) (tk : Takes X Wout)
    (hb : ∀ (W : WX) (pn : List (Addr × Obj)) (xe : Value → Shared → Prop), Takes (X.tr pn xe) W → PassesOwn (model X.prog X.w) X.A X.env xe → PSs (X.tr pn xe) body (tb W))
    (hh : HdsA X (h₀ :: hds) l) : PS X (.Try body (h₀ :: hds) [] [] pos) (fun D σ H => tb (wManyA X.K Wout D l) D σ H) := by
  refine ⟨fun pins s σ H D I h => ?_⟩
  have ok := I.ok
  have hfr : X.A.frames = some (X.env :: X.outer) := by rw [ok.frames, hs]
  refine wpAny_Try_except ?_
  refine wpAny_mono ((hb (wManyA X.K Wout D l) (X.pn ++ pins) (fun e s₁ => wpAny (model X.prog X.w) X.A (noteFrame e X.env) (fun _ s₂ => wpAny (model X.prog X.w) X.A (setFlight e none) (fun _ s₃ =>
    wpAny (model X.prog X.w) X.A (handleBy e X.env (h₀ :: hds)) (SP X pins D) X.xe s₃) X.xe s₂) X.xe s₁) (fun u s' xx => ?_) PassesOwn.looking).run [] s σ H D (I.toTry _) h) (fun f s1 hsp => ?_) (fun e s1 he => he)
  · obtain ⟨a, B, sI, pins', σ', H', cls, d, rfl, J', nb, up, sky, na, os, ag, w⟩ := xx
    have J : Inv X pins σ' H' sI := J'.ofTry ok
    have sky' : Sky B (X.env :: X.outer) a (Zc cls d) X.env.locals s'.heap := by rw [← hs]; exact sky
    show wpAny (model X.prog X.w) X.A (noteFrame (.ref a) X.env) _ _ _
    refine Sky.land Zc.steady hfr hf sky' fun h3 fl3 up3 => ?_
    have J3 : Inv X pins σ' H' { s' with heap := h3 } := J.landed nb fl3.1 (up.trans up3) os ag
    obtain ⟨oe3, vs3, he3, hz3, hd3⟩ := fl3.there
    have notFr : ∀ {h : Heap} {o : Obj} {vs : Array Value}, h.FunFrames B (X.env :: X.outer) → h.get? a = some o → o.data = .fields vs → a ∉ frs (X.env :: X.outer) := fun {h o vs} ff e dd hm => by
      obtain ⟨_, o', e', hnf⟩ := ff.mem hm
      rw [e] at e'; cases e'
      exact hnf _ dd
    have nfr := notFr fl3.2.2.1 he3 hd3
    have nL : a ≠ X.env.locals := fun z => nfr (List.mem_filterMap.mpr ⟨X.env, List.mem_cons_self, by rw [hf, z]⟩)
    have nF : a ∉ X.fs := fun hm => by
      obtain ⟨e, he, q⟩ := List.mem_filterMap.mp hm
      exact nfr (List.mem_filterMap.mpr ⟨e, List.mem_cons_of_mem _ he, q⟩)
    have S3 := J3.suite he3 hd3 na nL nF
    have LT : PySem.W.Looks (model X.prog X.w) h3 (typeOf (.ref a)) cls := fun A Q E s k q => wpAny_typeOf_ref (k _ _ he3) (by rw [hz3.1]; exact q)
    have test : ∀ {x : Str} {c : Value} {np : Pos} (hc : Names X x c) {Q : Value → Shared → Prop} {E : Value → Shared → Prop}, Q c { s' with heap := h3 } → wpAny (model X.prog X.w) (X.A.mark (some (.ref a))) (eval (.Name x np) X.env) Q E { s' with heap := h3 } := fun {x c np} hc {Q E} q => by
      obtain ⟨hg, hdbg, hm | ⟨hm, hv, hnn⟩⟩ := hc
      · exact ld_glob (X := X.suite a ((a, oe3) :: (X.pn ++ pins))) S3 hg hm q hdbg
      · exact ld_blt (X := X.suite a ((a, oe3) :: (X.pn ++ pins))) S3 hg hm hv q hnn hdbg
    have go : ∀ {hds' : List ExceptHandler} {l' : List (Value × Option Nat × (Addr → Value → Option Addr → TS))}, HdsA X hds' l' → wManyA X.K Wout D l' cls d σ' H' →
        wpAny (model X.prog X.w) X.A (handleBy (.ref a) X.env hds') (SP X pins D) X.xe { s' with heap := h3 } := by
      intro hds' l' hk
      induction hk with
      | nil =>
        intro w
        refine wpAny_handleBy_nil ?_
        obtain ⟨k1, k2, k3, oe, vs, T, oT, ts', he, hz, hd, h1, hr⟩ := id fl3
        unfold PySem.passOn
        refine wpAny_bind (wpAny_field he hd h1 ?_)
        rw [if_neg (show ¬ ((Value.ref T == Value.none) = true) from by simp)]
        have fin : wpAny (model X.prog X.w) X.A (setFlight (.ref a) X.env.frame) (fun _ s4 => wpAny (model X.prog X.w) X.A (throw (.ref a) : Sem Flow) (SP X pins D) X.xe s4) X.xe { s' with heap := h3 } := by
          rw [hf]
          refine HandSPX.setFlight_upZ fl3 fun h4 hh4 up4 => wpAny_throw (tk _ _ ?_)
          exact ⟨a, B, sI, pins, σ', H', cls, d, rfl, J, nb, (up.trans up3).trans up4, .inr (.inr (by rw [hs]; exact hh4)), na, os, ag, w⟩
        first
          | exact wpAny_bind (wpAny_pure (wpAny_bind fin))
          | exact wpAny_bind fin
      | @cons x c ts b₀ suite np pos' hds2 l2 hc hsu r ih =>
        intro w
        obtain ⟨b, hb1, hyes, hno⟩ := w
        refine wpAny_handleBy_cons (codeAny_handlers_test ?_) (by intro q; cases q)
        have LM := PySem.W.exm_one (M := model X.prog X.w) (J3.kIn) LT hb1
        refine test hc (LM.here ?_)
        cases b with
        | true =>
          refine codeAny_handlers_suite ?_
          refine HandSPX.lands_againZ fl3 fun h4 fl4 up4 => ?_
          have J4 : Inv X pins σ' H' { s' with heap := h4 } := J.landed nb fl4.1 ((up.trans up3).trans up4) os ag
          obtain ⟨oe4, vs4, he4, hz4, hd4⟩ := fl4.there
          have S4 := J4.suite he4 hd4 na nL nF
          refine wpAny_mono ((hsu a oe4 cls d (X.pn ++ pins) hz4 ⟨_, hd4⟩).run [] _ _ H' _ S4 (hyes rfl a na)) (fun f s6 hsp => ?_) (fun _ _ z => False.elim z)
          cases f with
          | next =>
            obtain ⟨σ6, H6, S6, q6⟩ := hsp
            exact ⟨_, _, S6.unsuite ok, q6⟩
          | brk =>
            obtain ⟨σ6, H6, S6, q6⟩ := hsp
            exact ⟨_, _, S6.unsuite ok, q6⟩
          | cont =>
            obtain ⟨σ6, H6, S6, q6⟩ := hsp
            exact ⟨_, _, S6.unsuite ok, q6⟩
          | ret u =>
            obtain ⟨v6, σ6, H6, S6, r6, q6⟩ := hsp
            exact ⟨_, _, _, S6.unsuite ok, r6, q6⟩
        | false =>
          show wpAny _ X.A (handleBy (.ref a) X.env hds2) _ _ _
          exact ih (hno rfl)
      | @consA x n i c ts b₀ suite np pos' hds2 l2 hi hln hc hsu r ih =>
        intro w
        obtain ⟨b, hb1, hyes, hno⟩ := w
        refine wpAny_handleBy_cons (codeAny_handlers_test ?_) (by intro q; cases q)
        have LM := PySem.W.exm_one (M := model X.prog X.w) (J3.kIn) LT hb1
        refine test hc (LM.here ?_)
        cases b with
        | true =>
          refine codeAny_handlers_suite_as ?_
          refine HandSPX.lands_againZ fl3 fun h4 fl4 up4 => ?_
          have J4 : Inv X pins σ' H' { s' with heap := h4 } := J.landed nb fl4.1 ((up.trans up3).trans up4) os ag
          obtain ⟨oe4, vs4, he4, hz4, hd4⟩ := fl4.there
          have S4 := J4.suite he4 hd4 na nL nF
          refine store_ok (X := X.suite a ((a, oe4) :: (X.pn ++ pins))) (v := .ref a) S4 hN hi (.inl hln) rfl (fun s5 S5 => ?_) (.inr hln)
          refine wpAny_mono ((hsu a oe4 cls d (X.pn ++ pins) hz4 ⟨_, hd4⟩).run [] s5 _ H' _ S5 (hyes rfl a na)) (fun f s6 hsp => ?_) (fun _ _ z => False.elim z)
          have end_ : ∀ {σ6 : L2.St} {H6 : Hp} {Q : Shared → Prop}, Inv (X.suite a ((a, oe4) :: (X.pn ++ pins))) [] σ6 H6 s6 → (∀ s7, Inv X pins (σ6.set i none) H6 s7 → Q s7) →
              wpAny (model X.prog X.w) X.A (do bindName X.env n .none; unbindBehindTheSuite X.env n pos') (fun _ s7 => Q s7) X.xe s6 := fun {σ6 H6 Q} S6 hq => gone_ok (S6.unsuite ok) hN hi hln hq
          cases f with
          | next =>
            obtain ⟨σ6, H6, S6, q6⟩ := hsp
            exact end_ S6 fun s7 J7 => ⟨_, _, J7, q6⟩
          | brk =>
            obtain ⟨σ6, H6, S6, q6⟩ := hsp
            exact end_ S6 fun s7 J7 => ⟨_, _, J7, q6⟩
          | cont =>
            obtain ⟨σ6, H6, S6, q6⟩ := hsp
            exact end_ S6 fun s7 J7 => ⟨_, _, J7, q6⟩
          | ret u =>
            obtain ⟨v6, σ6, H6, S6, r6, q6⟩ := hsp
            exact end_ S6 fun s7 J7 => ⟨_, _, _, J7, r6, q6⟩
        | false =>
          show wpAny _ X.A (handleBy (.ref a) X.env hds2) _ _ _
          exact ih (hno rfl)
    exact go hh w
  · cases f with
    | next =>
      obtain ⟨σ', H', J', q⟩ := hsp
      exact wpAny_execs_nil ⟨σ', H', J'.ofTry ok, q⟩
    | brk =>
      obtain ⟨σ', H', J', q⟩ := hsp
      exact ⟨σ', H', J'.ofTry ok, q⟩
    | cont =>
      obtain ⟨σ', H', J', q⟩ := hsp
      exact ⟨σ', H', J'.ofTry ok, q⟩
    | ret u =>
      obtain ⟨v, σ', H', J', r, q⟩ := hsp
      exact ⟨v, σ', H', J'.ofTry ok, r, q⟩
end
end LX
set_option maxHeartbeats 2000000
namespace LX
open PySem PySem.Spec PyProof.Rows L2 C8 SX
mutual
theorem dp_same {K : PySem.W.Frag} {H H' : Hp} (s : Same H H') : ∀ (d : PyData) (v : V), Dp K H v d → Dp K H' v d
  | .none, _, h => by cases h; exact .non
  | .bool b, _, h => by cases h; exact .bl b
  | .int i, _, h => by cases h; exact .int i
  | .str x, _, h => by cases h; exact .str x
  | .list ds, _, h => by
    cases h with
    | lst hs ha => exact .lst (s.seq hs) (dpa_same s ds _ ha)
  | .tuple ds, _, h => by
    cases h with
    | tup hs ha => exact .tup (sm_seqT s hs) (dpa_same s ds _ ha)
  | .dict _, _, h => by cases h
theorem dpa_same {K : PySem.W.Frag} {H H' : Hp} (s : Same H H') : ∀ (ds : List PyData) (vs : List V), DpAll K H vs ds → DpAll K H' vs ds
  | [], _, h => by cases h; exact .nil
  | d :: ds, _, h => by
    cases h with
    | cons h1 h2 => exact .cons (dp_same s d _ h1) (dpa_same s ds _ h2)
end
theorem dpa_len {K : PySem.W.Frag} {H : Hp} : ∀ {vs : List V} {ds : List PyData}, DpAll K H vs ds → vs.length = ds.length
  | _, _, .nil => rfl
  | _, _, .cons _ h => by rw [List.length_cons, List.length_cons, dpa_len h]
theorem dpa_at {K : PySem.W.Frag} {H : Hp} : ∀ {vs : List V} {ds : List PyData}, DpAll K H vs ds → ∀ (i : Nat) (v : V), vs[i]? = some v → ∃ d, ds[i]? = some d ∧ Dp K H v d
  | _, _, .nil, i, v, h => by simp at h
  | _, _, .cons h _, 0, v, e => by cases e; exact ⟨_, rfl, h⟩
  | _, _, .cons _ h, i + 1, v, e => dpa_at h i v e
def wo (B : List Addr) (H : Hp) : Hp := fun a => if a ∈ B then none else H a
def Liv (B : List Addr) (H : Hp) : Prop := ∀ b ∈ B, H b ≠ none
section
variable {B : List Addr} {H H' : Hp} {a : Addr} {o : HO}
theorem wo_in (h : a ∈ B) : wo B H a = none := if_pos h
theorem wo_out (h : a ∉ B) : wo B H a = H a := if_neg h
theorem wo_get (h : H a = some o) (n : a ∉ B) : wo B H a = some o := (wo_out n).trans h
theorem of_wo (h : wo B H a = some o) : H a = some o ∧ a ∉ B := by
  by_cases n : a ∈ B
  · rw [wo_in n] at h; cases h
  · exact ⟨(wo_out n).symm.trans h, n⟩
theorem wo_same (s : Same H H') : Same (wo B H) (wo B H') := fun a o h => let ⟨e, n⟩ := of_wo h; wo_get (s _ _ e) n
theorem wo_sub : Same (wo B H) H := fun _ _ h => (of_wo h).1
theorem wo_cons {b : Addr} : Same (wo (b :: B) H) (wo B H) := fun a o h => let ⟨e, n⟩ := of_wo h; wo_get e fun m => n (List.mem_cons_of_mem _ m)
theorem wo_upd_in (h : a ∈ B) : wo B (upd H a o) = wo B H := by
  funext c
  by_cases n : c ∈ B
  · rw [wo_in n, wo_in n]
  · rw [wo_out n, wo_out n, upd_ne (fun e => n (by rw [e]; exact h))]
theorem Liv.same (l : Liv B H) (s : Same H H') : Liv B H' := fun b hb e => by
  cases q : H b with
  | none => exact l b hb q
  | some o => rw [s _ _ q] at e; cases e
theorem Liv.new (l : Liv B H) (h : H a = none) : a ∉ B := fun m => l a m h
theorem Liv.cons {b : Addr} (l : Liv B H) (h : H b = some o) : Liv (b :: B) H := fun c hc e => by
  rcases List.mem_cons.mp hc with rfl | m
  · rw [h] at e; cases e
  · exact l c m e
theorem same_new {p : Addr} (s : Same H H') (h : H' p = none) : H p = none := by
  cases e : H p with
  | none => rfl
  | some o => rw [s _ _ e] at h; cases h
end
def RD (K : PySem.W.Frag) (B : List Addr) (t : TE) (d : PyData) (σ : L2.St) (H : Hp) : Prop := Liv B H → ∀ Q : VK, (∀ v H', Same H H' → Dp K (wo B H') v d → Q v H') → t σ H Q
def RDs (K : PySem.W.Frag) (B : List Addr) (t : TA) (ds : List PyData) (σ : L2.St) (H : Hp) : Prop := Liv B H → ∀ Q : List V → Hp → Prop, (∀ vs H', Same H H' → DpAll K (wo B H') vs ds → Q vs H') → t σ H Q
theorem dpa_of {K : PySem.W.Frag} {H : Hp} : ∀ {ys : List V} {n : Nat} {dd : Nat → PyData}, ys.length = n → (∀ (j : Nat) y, ys[j]? = some y → Dp K H y (dd j)) → DpAll K H ys ((List.range n).map dd)
  | [], _, _, hl, _ => by subst hl; exact .nil
  | y :: ys, _, dd, hl, h => by
    subst hl
    rw [List.length_cons, List.range_succ_eq_map, List.map_cons, List.map_map]
    exact .cons (h 0 y rfl) (dpa_of (dd := dd ∘ Nat.succ) rfl fun j z e => h (j + 1) z e)
section
variable {K : PySem.W.Frag} {B : List Addr} {σ : L2.St} {H : Hp} {t : TE} {ta : TA} {d : PyData} {ds : List PyData}
theorem rd_non : RD K B (tC .non) .none σ H := fun _ _ q => q _ H (Same.refl H) .non
theorem rd_int {i : Int} : RD K B (tC (.int i)) (.int i) σ H := fun _ _ q => q _ H (Same.refl H) (.int i)
theorem rd_bl {b : Bool} : RD K B (tC (.bl b)) (.bool b) σ H := fun _ _ q => q _ H (Same.refl H) (.bl b)
theorem rd_str {x : Str} : RD K B (tC (.str x)) (.str x) σ H := fun _ _ q => q _ H (Same.refl H) (.str x)
theorem rd_var {i : Nat} {v : V} (e : σ[i]? = some (some v)) (h : Dp K (wo B H) v d) : RD K B (tVar i) d σ H := fun _ _ q => ⟨v, e, q _ H (Same.refl H) h⟩
theorem rd_nil : RDs K B tNil [] σ H := fun _ _ q => q _ H (Same.refl H) .nil
theorem rd_cons (h1 : RD K B t d σ H) (h2 : ∀ H', Same H H' → Liv B H' → RDs K B ta ds σ H') : RDs K B (tCons t ta) (d :: ds) σ H := fun l _ q =>
  h1 l _ fun v H1 s1 hv => h2 H1 s1 (l.same s1) (l.same s1) _ fun vs H2 s2 hvs => q _ H2 (s1.trans s2) (.cons (dp_same (wo_same s2) _ _ hv) hvs)
theorem rd_lst (h : RDs K B ta ds σ H) (hl : ds.length ≤ sizeLine := by decide) : RD K B (tLst ta) (.list ds) σ H := fun l _ q =>
  h l _ fun vs H1 s1 hvs => ⟨by rw [dpa_len hvs]; exact hl, fun p hp => q _ _ (s1.trans (sm_new hp)) (.lst (SqL.of (wo_get upd_same ((l.same s1).new hp))) (dpa_same (wo_same (sm_new hp)) _ _ hvs))⟩
theorem rd_tup (h : RDs K B ta ds σ H) (hl : ds.length ≤ sizeLine := by decide) : RD K B (tTup ta) (.tuple ds) σ H := fun l _ q =>
  h l _ fun vs H1 s1 hvs => ⟨by rw [dpa_len hvs]; exact hl, fun p hp => q _ _ (s1.trans (sm_new hp)) (.tup (SqT.of (wo_get upd_same ((l.same s1).new hp))) (dpa_same (wo_same (sm_new hp)) _ _ hvs))⟩
theorem rd_lstA {Q : VK} (l : Liv B H) (h : RDs K B ta ds σ H) (hl : ds.length ≤ sizeLine) (q : ∀ p xs H', Same H H' → H p = none → H' p = some (.lst xs) → DpAll K (wo B H') xs ds → Q (.ref p) H') : tLst ta σ H Q :=
  h l _ fun vs H1 s1 hvs => ⟨by rw [dpa_len hvs]; exact hl, fun p hp => q p vs _ (s1.trans (sm_new hp)) (same_new s1 hp) upd_same (dpa_same (wo_same (sm_new hp)) _ _ hvs)⟩
theorem gn1 {i : Nat} {v : V} {Q : L2.St → Hp → Prop} (h : Q (σ.set i (some v)) H) : gName i v σ H Q := h
theorem pr1 {k : V} {tv : TE} {Q : List (V × V) → Hp → Prop} (h : tv σ H fun y H2 => Q [(k, y)] H2) : tPairs [(tC k, tv)] σ H Q := h
theorem lc_rd {J : It} {n : Nat} {G : Hp → Prop} {Y : Nat → Hp → V → Hp → Prop} {H1 : Hp} (w : Walk J n G Y) {g : TG} {te : TE} {vs : List Nat} {D : Addr} {Qd : Hp → Prop} (hB : Liv B H1) (hD : H1 D = none) (hn : n < sizeLine) (dd : Nat → PyData) (hG : ∀ H, Same H1 H → G H)
    (hs : ∀ i x H H' (R : V → Hp → Prop), i < n → Same H1 H → Liv (D :: B) H → Y i H x H' → (∀ y H4, Same H H4 → Dp K (wo (D :: B) H4) y (dd i) → R y H4) → g x (wipe σ vs) H' fun σ2 H2 => wipe σ2 vs = wipe σ vs ∧ te σ2 H2 R)
    (hd : ∀ ys H, Same H1 H → H D = some (.lst ys) → DpAll K (wo B H) ys ((List.range n).map dd) → Dp K (wo B H) (.ref D) (.list ((List.range n).map dd)) → Qd H) :
    ∃ W : Nat → Nat → Hp → Prop, (∃ m, W 0 m (upd H1 D (.lst []))) ∧ ∀ i m H, W i m H →
      (J.stop i H ∧ Qd H) ∨ (J.go i H ∧ ∃ Nx : Hp → Prop, (∀ H', Nx H' → ∃ m', m' < m ∧ W (i + 1) m' H') ∧ ∀ x H', J.yld i H x H' → g x (wipe σ vs) H' fun σ2 H2 => wipe σ2 vs = wipe σ vs ∧ tYes σ2 H2 fun b H3 =>
        if b = true then te σ2 H3 fun y H4 => ∃ acc, H4 D = some (.lst acc) ∧ acc.length < sizeLine ∧ Nx (upd H4 D (.lst (acc ++ [y]))) else Nx H3) := by
  refine lc_keepH keep_same w hD hn (fun i y H => Dp K (wo (D :: B) H) y (dd i)) hG (fun i y H H' _ r h => dp_same (wo_same r) _ _ h) (fun i y H acc o _ _ h => by rw [wo_upd_in List.mem_cons_self]; exact h) (fun i x H H' acc R hi r hDa hy hR => hs i x H H' R hi r ((hB.same r).cons hDa) hy hR) (fun ys H hl hg r hDs => ?_)
  have ha := dpa_of hl fun j y e => dp_same wo_cons _ _ (hg j y e)
  exact hd ys H r hDs ha (.lst (SqL.of (wo_get hDs (hB.new hD))) ha)
end
end LX
set_option maxHeartbeats 4000000
namespace LX
open PySem PySem.Spec PyProof.Rows L2 C8 SX
section
variable {prog : Program} {w : World} {A : Around} {E : Value → Shared → Prop} {s : Shared} {K : PySem.W.Frag} {a C f : Addr} {ox : Obj} {od : Option Obj} {u : Value} {T id : String}
theorem rc_own_second (hu : A.units < cLine) (X : K.In s.heap) (I : PySem.W.InstAt s.heap a ox C od) (hT : s.TypeIs u T) (h1 : oneThing? .Eq u (.ref a) = none) (hsub : PySem.W.subIn K (.ref C) (.type T) = some false) (sl : Slot T (cmpInfo .Eq).2.1 id)
    (hs : PySem.W.findIn K (.ref C) "__eq__" = some (some (.ref f))) (hf : PySem.W.isFn K (.ref f) = true) {Q : Value → Shared → Prop}
    (hc1 : ∀ Q' : Value → Shared → Prop, Q' .notImplemented s → wpAny (model prog w) A (call (.builtin id) [u, .ref a]) Q' E s)
    (hc2 : wpAny (model prog w) A (call (.ref f) [.ref a, u]) (PySem.W.CmpBack Q) E s) : wpAny (model prog w) A (richCompare .Eq u (.ref a)) Q E s := by
  have two : wpAny (model prog w) A (tryCompare (.ref a) (cmpInfo .Eq).2.2 u) (fun r s' => ∃ v, r = some v ∧ Q v s') E s := by
    unfold tryCompare
    refine wpAny_bind (PySem.W.ifBound_K X I hs hf (wpAny_mono hc2 (fun v s' hv => ?_) fun _ _ e => e))
    cases v <;> first | exact hv.elim | exact wpAny_pure ⟨_, rfl, hv⟩
  unfold richCompare
  simp only [h1]
  refine wpAny_holding (wpAny_bind (wpAny_cRoomFor hu ?_))
  refine wpAny_bind (wpAny_typeOf hT (wpAny_bind (I.type.here ?_)))
  rw [show (Value.type T != Value.ref C) = true from rfl]
  simp only [if_true]
  refine wpAny_bind ((PySem.W.looks_subIn X hsub).here ?_)
  simp only [Bool.false_eq_true, if_false, Bool.not_false, if_true]
  refine wpAny_bind (m := tryCompare u _ (.ref a)) (wpAny_tryCompare_declines hT sl (hc1 _ ⟨rfl, ?_⟩))
  refine wpAny_bind (m := tryCompare (.ref a) _ u) (wpAny_mono two (fun r s' z => ?_) fun _ _ e => e)
  obtain ⟨v, rfl, q⟩ := z
  exact wpAny_pure q
theorem none_declines {Q : Value → Shared → Prop} (h : Q .notImplemented s) : wpAny (model prog w) A (call (.builtin "NoneType.__eq__") [.none, .ref a]) Q E s :=
  call_gives F.slot_NoneType_eq rfl F.entry_NoneType_eq (F.args_NoneType_eq_2 _ _) (PySem.SeqAt.NoneType___eq___none_ref_0 a) h
theorem str_declines {dx : Addr} {x : Str} {t : Tok} {Q : Value → Shared → Prop} (hx : s.heap.get? a = some (PySem.W.instObj C dx)) (h : Q .notImplemented s) : wpAny (model prog w) A (call (.builtin "str.__eq__") [.str x t, .ref a]) Q E s := by
  refine wpAny_call (codeAny_call_builtin F.slot_str_eq.plain F.entry_str_eq (F.slot_str_eq.check _ _ _ _ _ _ _ _ rfl (F.args_str_eq_2 _ _) ?_))
  obtain ⟨hp, g, d, tk, os⟩ := s
  wp_walk using wpAny_load hx
  exact h
theorem list_declines {dx l : Addr} {items : Array Value} {Q : Value → Shared → Prop} (hl : s.heap.IsList l items) (X : K.In s.heap) (hx : s.heap.get? a = some (PySem.W.instObj C dx)) (hsub : PySem.W.subIn K (.ref C) (.type "list") = some false) (h : Q .notImplemented s) :
    wpAny (model prog w) A (call (.builtin "list.__eq__") [.ref l, .ref a]) Q E s := by
  obtain ⟨⟨cls, dd, data, sl⟩, ho, hc, n, hd⟩ := id hl
  simp only at hc hd
  subst hc hd
  refine wpAny_call (codeAny_call_builtin F.slot_list_eq.plain F.entry_list_eq (F.slot_list_eq.check _ _ _ _ _ _ _ _ ⟨_, ho, rfl⟩ (F.args_list_eq_2 _ _) ?_))
  obtain ⟨hp, g, d, tk, os⟩ := s
  wp_walk using PySem.AutoSeq1.wpAny_loadPart' hx
  refine (PySem.W.looks_subIn X hsub).here ?_
  wp_walk
  exact h
theorem in_tuple_none {l : Addr} {items : Array Value} {x : Value} {Q : Value → Shared → Prop} (J : Shared → Prop) (hl : s.heap.IsTuple l items) (h0 : J s)
    (turn : ∀ y s', y ∈ items → J s' → wpAny (model prog w) A.in1 (eqBool y x) (fun b s2 => b = false ∧ J s2) E s') (fin : ∀ s', J s' → Q (.bool false) s') : wpAny (model prog w) A (compareOp .In x (.ref l)) Q E s := by
  obtain ⟨⟨cls, dd, data, sl⟩, ho, hc, n, hd⟩ := id hl
  simp only at hc hd
  subst hc hd
  show wpAny _ A (do return .bool (← contains (.ref l) x)) Q E s
  refine wpAny_bind (wpAny_contains_slot ⟨_, ho, rfl⟩ F.slot_tuple_contains (wpAny_mono (Q := fun v s' => v = .bool false ∧ J s') (wpAny_call (codeAny_call_builtin F.slot_tuple_contains.plain F.entry_tuple_contains
    (F.slot_tuple_contains.check _ _ _ _ _ _ _ _ ⟨_, ho, rfl⟩ (F.args_tuple_contains_2 _ _) ?_))) (fun v s' hv => ?_) fun _ _ e => e))
  · obtain ⟨hp, g, d, tk, os⟩ := s
    wp_walk using PySem.AutoSeq1.wpAny_loadPart' ho, PySem.MeetsSeq2.wpAny_forIn_array _ (fun (rest : List Value) (b : Option PySem.Fin × Unit) (s' : Shared) => b.1 = none ∧ J s' ∧ ∀ y, y ∈ rest → y ∈ items) _
    case turn =>
      rintro y rest b s' ⟨hb, hJ, hmem⟩
      refine wpAny_bind (wpAny_mono (turn y s' (hmem y (List.mem_cons_self ..)) hJ) (fun r s2 z => ?_) fun _ _ e => e)
      obtain ⟨rfl, hJ2⟩ := z
      wp_walk
      exact ⟨rfl, hJ2, fun z hz => hmem z (List.mem_cons_of_mem _ hz)⟩
    case fin =>
      rintro ⟨b1, b2⟩ s' ⟨hb, hJ, -⟩
      simp only at hb
      subst hb
      wp_walk
      exact ⟨rfl, hJ⟩
    case h => exact ⟨rfl, h0, fun y hy => by simpa using hy⟩
  · obtain ⟨rfl, hJ⟩ := hv
    exact wpAny_truthy_bool (wpAny_pure (fin s' hJ))
end
section
variable {X : Cx} {k j : Nat} {C : Addr} {sp : Sp}
def Plain0 (H : Hp) (z : V) : Prop := (∃ x, z = .str x) ∨ z = .non ∨ ∃ l xs, z = .ref l ∧ H l = some (.lst xs)
structure NotB (K : PySem.W.Frag) (C : Addr) : Prop where
  str : PySem.W.subIn K (.ref C) (.type "str") = some false
  non : PySem.W.subIn K (.ref C) (.type "NoneType") = some false
  lst : PySem.W.subIn K (.ref C) (.type "list") = some false
def rInOwn (K : PySem.W.Frag) (C : Addr) (sp : Sp) : R2 := fun x y H Q => ∃ a dx fs p xs, x = .ref a ∧ y = .ref p ∧ H a = some (.ins C dx fs) ∧ SqT K H p xs ∧ (∀ z ∈ xs, Plain0 H z ∧ ∀ R : VK, R (.bl false) H → sp [.ref a, z] H R C8.E0) ∧ Q (.bl false) H
theorem vals_mem : ∀ {xs : List V} {us : List Value}, Vals xs us → ∀ u ∈ us, ∃ x ∈ xs, RelV x u
  | _, _, .nil, _, h => nomatch h
  | _, _, .cons r t, u, h => by
    rcases List.mem_cons.mp h with e | h
    · rw [e]; exact ⟨_, List.mem_cons_self, r⟩
    · obtain ⟨x, hx, r⟩ := vals_mem t u h
      exact ⟨x, List.mem_cons_of_mem _ hx, r⟩
theorem op_inOwn (b : NotB X.K C) (c : Met X.prog X.w X.K X.mg X.base k C "__eq__" sp []) (hr : Room j X.A) (hk : k + 1 ≤ j) : OpR X (compareOp .In) (rInOwn X.K C sp) := by
  intro pins s σ H x y v u Q I rx ry h
  obtain ⟨a, dx, fs, p, xs, rfl, rfl, ha, hp, all, q⟩ := h
  cases rx
  cases ry
  obtain ⟨its, r, pl, hz⟩ := I.tuple hp
  refine in_tuple_none (J := fun s' => Inv X pins σ H s') pl I (fun z s' hz J => ?_) (fun s' J => ⟨.bl false, H, J, rfl, q⟩)
  obtain ⟨zv, hzm, rz⟩ := vals_mem r z (by simpa using hz)
  obtain ⟨pz, sz⟩ := all zv hzm
  obtain ⟨mA, O, _⟩ := ins_get J.hok ha
  have hobj := O.obj
  obtain ⟨od, O, _⟩ := O.look
  have hu : (X.A.in1).units < cLine := hu_of hr
  obtain ⟨f, hs, hf, hw⟩ := met_runV (A := X.A.in1) (Q := PySem.W.CmpBack fun v s2 => v = .bool false ∧ Inv X pins σ H s2) c (hr.mono hk).in1 rfl J rz (sz (fun v H' => v = .bl false ∧ H' = H) ⟨rfl, rfl⟩) (fun v z H' s' I' rz q => by
    obtain ⟨rfl, rfl⟩ := q
    cases rz
    exact ⟨rfl, I'⟩)
  have back : wpAny (model X.prog X.w) X.A.in1 (richCompare .Eq z (.ref a)) (fun v s2 => v = .bool false ∧ Inv X pins σ H s2) X.xe s' := by
    rcases pz with ⟨t, rfl⟩ | rfl | ⟨l, ys, rfl, hl⟩
    · obtain ⟨tk, rfl⟩ := rz
      exact rc_own_second (u := .str t tk) (T := "str") hu J.kIn O rfl rfl b.str F.slot_str_eq hs hf (fun Q' h' => str_declines hobj h') hw
    · cases rz
      exact rc_own_second (u := .none) (T := "NoneType") hu J.kIn O rfl rfl b.non F.slot_NoneType_eq hs hf (fun Q' h' => none_declines h') hw
    · cases rz
      obtain ⟨its2, r2, pl2, _⟩ := J.list (SqL.of hl)
      have hT : s'.TypeIs (.ref l) "list" := let ⟨o, e1, e2, _⟩ := pl2.isList; ⟨o, e1, e2⟩
      exact rc_own_second hu J.kIn O hT rfl b.lst F.slot_list_eq hs hf (fun Q' h' => list_declines pl2.isList J.kIn hobj b.lst h') hw
  unfold eqBool
  refine wpAny_holding ?_
  refine wpAny_ite_split (fun hab => ?_) (fun _ => ?_)
  · exfalso
    have e := eq_of_beq hab
    subst e
    rcases pz with ⟨t, rfl⟩ | rfl | ⟨l, ys, rfl, hl⟩
    · obtain ⟨tk, e⟩ := rz; cases e
    · cases rz
    · cases rz; rw [ha] at hl; cases hl
  have go : wpAny (model X.prog X.w) X.A.in1 (richCompare .Eq z (.ref a) >>= truthOfDropped) (fun b s2 => b = false ∧ Inv X pins σ H s2) X.xe s' := by
    refine wpAny_bind (wpAny_mono back (fun v s2 hv => ?_) fun _ _ e => e)
    obtain ⟨rfl, I2⟩ := hv
    exact wpAny_truthy_bool ⟨rfl, I2⟩
  rcases pz with ⟨t, rfl⟩ | rfl | ⟨l, ys, rfl, hl⟩
  · obtain ⟨tk, rfl⟩ := rz; exact go
  · cases rz; exact go
  · cases rz; exact go
def tMakeSL (i : Nat) (C : Addr) (sp : Sp) (E : L2.St → XK) (t : TA) : TE := fun σ H Q => σ[i]? = some (some (.ref C)) ∧ tMakeS C sp E t σ H Q
theorem pe_mkXL {i : Nat} {x n : Str} {p pos : Pos} {e : Expr} {es : List Expr} {t : TA} {W : WX} (c : MakX X.prog X.w X.K X.mg X.base k n C sp) (tk : Takes X W) (hr : Room j X.A) (hk : k + 1 ≤ j) (hN : X.N[i]? = some x) (hv : Vis X.env.scope x) (ha : PA X (e :: es) t)
    (hd : (x == ("__debug__" : Str)) = false := by decide) (hcd : (x == ("__classdict__" : Str)) = false := by decide)
    (he : starEach (e :: es) X.env = (false, eval e X.env) :: starEach es X.env := by rfl) (hpl : (backTo pos (starEach es X.env)).any (·.1) = false := by rfl) : PE X (.Call (.Name x p) (e :: es) [] pos) (tMakeSL i C sp (WE W) t) := by
  obtain ⟨f, fd, ps, M, F, hm, hb⟩ := c.ex
  refine ⟨fun pins s σ H Q I h => ?_⟩
  obtain ⟨hs, h⟩ := h
  refine wpAny_Call_Name_kw (thn ((pe_var (pos := p) hN hv hd hcd).run pins s σ H (fun v H1 => v = .ref C ∧ H1 = H) I ⟨.ref C, hs, rfl, rfl⟩) fun u s0 ⟨v, H0, I0, r0, ev, eH⟩ => ?_)
  subst ev
  rw [eH] at I0
  obtain rfl : u = Value.ref C := r0
  refine PySem.W.callWith_K (h₀ := X.base) I.ok.mod.kin M.kp (thn (ha.run pos pins s0 σ H _ I0 h) fun us s1 ⟨vs, H1, I1, r, q⟩ => ⟨I1.kIn, ?_⟩) he hpl
  have hq := q (s1.heap.objs.size + 1) s1.heap.objs.size (I1.hok.fresh (Nat.le_succ _)) (I1.hok.fresh (Nat.le_refl _)) (Nat.ne_of_lt (Nat.lt_succ_self _))
  have I2 := Inv.made (C := C) I1
  have r2 : Vals (V.ref (s1.heap.objs.size + 1) :: vs) (Value.ref (s1.heap.objs.size + 1) :: us) := .cons rfl r
  have hl : (Value.ref (s1.heap.objs.size + 1) :: us ++ []).length = ps.length := by
    have e := r2.length
    rw [F.len _ _ _ _ hq] at e
    rw [List.append_nil]
    exact e.symm
  have hb2 := hb _ (Value.ref (s1.heap.objs.size + 1) :: us) I2.kIn hl
  rw [List.append_nil] at hb2
  refine wpAny_call (make_map (f := f) I1.kIn M.makes M.init (beq_iff_eq.mp M.fn) (codeAny_mono (F.run _ X.stack _ _ ⟨Value.ref (s1.heap.objs.size + 1) :: us, []⟩ (Value.ref (s1.heap.objs.size + 1) :: us) _ _ (WE W σ) ((hr.mono hk).make C us [])
    (I2.env0.make C us []) hb2 r2 hq) fun r s' hq' => ?_))
  cases r with
  | error e => exact passAt tk σ pins _ _ e s' I2 hq'
  | ok fl =>
    cases fl with
    | ret u =>
      obtain ⟨v, H', I3, rv, ev, q3⟩ := I2.after hq'
      subst ev
      exact ⟨rv, ⟨V.ref (s1.heap.objs.size + 1), H', I3, rfl, q3⟩⟩
    | next => exact False.elim hq'
    | brk => exact False.elim hq'
    | cont => exact False.elim hq'
end
end LX
set_option maxHeartbeats 4000000
namespace LX
open PySem PySem.Spec PyProof.Rows L2 C8 SX
structure PrX (P : Program) (w : World) (K : PySem.W.Frag) (mg : Str → Option Value) (base : Heap) (k : Nat) (C : Addr) (f : Str) (sp : Sp) : Prop where
  ex : ∃ (p g : Addr) (fd : FuncData) (ps : List Str), Cls K C ∧ PropOf K C f p g ∧ FnOk P w K mg base C8.CX0 k g fd ps sp ∧ Binds K fd ps []
theorem pe_prX {X : Cx} {k j : Nat} {C : Addr} {f : Str} {sp : Sp} {e : Expr} {pos : Pos} {ta : TE} (c : PrX X.prog X.w X.K X.mg X.base k C f sp) (hr : Room j X.A) (hk : k + 1 ≤ j) (he : PE X e ta) (hab : attributeBase e f X.env (eval e X.env) = eval e X.env := by rfl) :
    PE X (.Attribute e f pos) (tProp C sp [] C8.E0 ta) := by
  obtain ⟨p, g, fd, ps, cl, hp, F, hb⟩ := c.ex
  exact pe_prop he cl hp F (hr.mono hk) hb .nil C8.pass0 hab
theorem starts1 (l : List Nat) (c : Nat) : Txt.startswith (S l) (S [c]) = decide (l.head? = some c) := by
  unfold Txt.startswith
  rw [PySem.StrLaws.subAt_eq]
  have e1 : (S l).cps.toList = l := by simp [S]
  have e2 : (S [c]).cps.toList = [c] := by simp [S]
  rw [e1, e2, S_len, S_len]
  cases l with
  | nil => rfl
  | cons d r => by_cases h : d = c <;> simp [h]
theorem ends1 (l : List Nat) (c : Nat) : Txt.endswith (S l) (S [c]) = decide (l.getLast? = some c) := by
  unfold Txt.endswith
  rw [PySem.StrLaws.subAt_eq]
  have e1 : (S l).cps.toList = l := by simp [S]
  have e2 : (S [c]).cps.toList = [c] := by simp [S]
  rw [e1, e2, S_len, S_len]
  rcases List.eq_nil_or_concat l with rfl | ⟨r, d, rfl⟩
  · rfl
  · by_cases h : d = c <;> simp [h]
theorem slice_mid (c d : Nat) (a : List Nat) : Txt.slice (S (c :: (a ++ [d]))) (some 1) (some (-1)) = S a := by
  have hl : (S (c :: (a ++ [d]))).length = a.length + 2 := by rw [S_len]; simp
  have e0 : Txt.slice (S (c :: (a ++ [d]))) (some 1) (some (-1)) = Txt.slice (S (c :: (a ++ [d]))) (some 1) (some ((a.length : Int) + 1)) := by
    have e := PySem.StrLaws.sliceText_neg_hi (S (c :: (a ++ [d]))) (some 1) (j := -1) (by omega) (by rw [hl]; omega)
    rw [hl] at e
    refine Eq.trans e ?_
    rw [show (-1 + ((a.length + 2 : Nat) : Int)) = (a.length : Int) + 1 by omega]
    rfl
  rw [e0]
  have e := beq_iff_eq.mp (PyProof.Rows.slice_closes (x := S (c :: (a ++ [d]))) (i := 1) (j := (a.length : Int) + 1) ⟨by omega, by omega, by simp [S]; omega⟩)
  refine e.trans (TL.ext_tl ?_)
  show (((S (c :: (a ++ [d]))).cps.toList.drop (1 : Int).toNat).take ((a.length : Int) + 1 - 1).toNat) = a
  rw [show (1 : Int).toNat = 1 from rfl, show ((a.length : Int) + 1 - 1).toNat = a.length by omega, show (S (c :: (a ++ [d]))).cps.toList = c :: (a ++ [d]) by simp [S]]
  simp
end LX
set_option maxHeartbeats 4000000
namespace LX
open PySem PySem.Spec PyProof.Rows L2 C8 SX
section
variable {X : Cx} {k j : Nat} {C : Addr} {sp : Sp}
theorem call_lenI (c : Met X.prog X.w X.K X.mg X.base k C "__len__" sp []) (hr : Room j X.A) (hk : k + 1 ≤ j) : CallR X (.builtin "len") (fun xs H Q => ∃ a dx fs, xs = [.ref a] ∧ H a = some (.ins C dx fs) ∧ sp [.ref a] H (fun v H' => ∃ n : Nat, v = .int (n : Nat) ∧ n ≤ 1000 ∧ Q (.int (n : Nat)) H') C8.E0) := by
  intro pins s σ H xs us Q I rel want
  obtain ⟨a, dx, fs, rfl, ha, hsp⟩ := want
  obtain ⟨u, rfl, ru⟩ := vals1 rel
  cases ru
  obtain ⟨mA, J, _⟩ := ins_get I.hok ha
  obtain ⟨od, J, _⟩ := J.look
  have r2 : Room k X.A.in1 := (hr.mono hk).in1
  obtain ⟨m, hF⟩ := I.fr
  obtain ⟨f, hs, hf, hw⟩ := met_run0 (A := X.A.in1) (Q := PySem.W.LenBack (EP X pins σ Q)) c r2 rfl I hsp (fun v z H' s' I' rz q => by
    obtain ⟨n, rfl, hn, q⟩ := q
    obtain ⟨t, rfl⟩ := rz
    exact ⟨⟨by omega, by omega⟩, .int (n : Nat), H', I'.tok _, ⟨_, rfl⟩, q⟩)
  exact PySem.W.len_K hF I.ok.mod.kin J hs hf hw
def SameR (xs ys : List V) : Prop := ∀ (i : Nat) u v, xs[i]? = some u → ys[i]? = some v → u = v ∧ ∃ c, u = .ref c
theorem same_items {A : Around} {s : Shared} {xs ys : List V} {us ws : List Value} (r1 : Vals xs us) (r2 : Vals ys ws) (h : SameR xs ys) (i : Nat) (h1 : i < us.toArray.size) (h2 : i < ws.toArray.size) : SeqAt.EqAt A s us.toArray[i] ws.toArray[i] true := by
  have g1 : us[i]? = some us.toArray[i] := by
    have h1' : i < us.length := by simpa using h1
    rw [List.getElem?_eq_getElem h1'] <;> simp
  have g2 : ws[i]? = some ws.toArray[i] := by
    have h2' : i < ws.length := by simpa using h2
    rw [List.getElem?_eq_getElem h2'] <;> simp
  have k1 : i < xs.length := by rw [r1.length]; simpa using h1
  have k2 : i < ys.length := by rw [r2.length]; simpa using h2
  obtain ⟨u, hu, ru⟩ := r1.get (List.getElem?_eq_getElem k1)
  obtain ⟨v, hv, rv⟩ := r2.get (List.getElem?_eq_getElem k2)
  rw [g1] at hu
  rw [g2] at hv
  rw [Option.some.inj hu, Option.some.inj hv]
  obtain ⟨e, c, ec⟩ := h i _ _ (List.getElem?_eq_getElem k1) (List.getElem?_eq_getElem k2)
  rw [← e] at rv
  rw [ec] at ru rv
  cases ru
  cases rv
  exact SeqAt.EqAt.same _
def rEqId (K : PySem.W.Frag) : R2 := fun x y H Q => ∃ a b xs ys, x = .ref a ∧ y = .ref b ∧ SqT K H a xs ∧ SqT K H b ys ∧ SameR xs ys ∧ Q (.bl (decide (xs.length = ys.length))) H
def rNeId (K : PySem.W.Frag) : R2 := fun x y H Q => ∃ a b xs ys, x = .ref a ∧ y = .ref b ∧ SqT K H a xs ∧ SqT K H b ys ∧ SameR xs ys ∧ Q (.bl (!decide (xs.length = ys.length))) H
theorem len_eq {xs ys : List V} {us ws : List Value} (r1 : Vals xs us) (r2 : Vals ys ws) : ((List.range (min us.toArray.size ws.toArray.size)).all (fun _ => true) && us.toArray.size == ws.toArray.size) = decide (xs.length = ys.length) := by
  rw [List.all_eq_true.mpr fun _ _ => rfl, Bool.true_and, List.size_toArray, List.size_toArray, ← r1.length, ← r2.length, Bool.eq_iff_iff, beq_iff_eq, decide_eq_true_eq]
theorem op_eqId (hu : X.A.units < cLine) : OpR X (compareOp .Eq) (rEqId X.K) := by
  intro pins s σ H x y v u Q I rx ry h
  obtain ⟨a, b, xs, ys, rfl, rfl, ha, hb, all, q⟩ := h
  cases rx
  cases ry
  obtain ⟨its, r, p, _⟩ := I.tuple ha
  obtain ⟨its2, r2, p2, _⟩ := I.tuple hb
  refine SeqAt.eq_tupleAt (e := fun _ => true) p p2 hu (fun i h1 h2 => same_items r r2 all i h1 h2) ⟨.bl _, H, I, ?_, q⟩
  rw [len_eq r r2]; rfl
theorem op_neId (hu : X.A.units < cLine) : OpR X (compareOp .NotEq) (rNeId X.K) := by
  intro pins s σ H x y v u Q I rx ry h
  obtain ⟨a, b, xs, ys, rfl, rfl, ha, hb, all, q⟩ := h
  cases rx
  cases ry
  obtain ⟨its, r, p, _⟩ := I.tuple ha
  obtain ⟨its2, r2, p2, _⟩ := I.tuple hb
  refine SeqAt.RcNeAt.tuples (e := fun _ => true) p p2 hu (fun i h1 h2 => same_items r r2 all i h1 h2) X.prog X.w X.xe _ ⟨.bl _, H, I, ?_, q⟩
  rw [len_eq r r2]; rfl
theorem op_eqIdK (K : PySem.W.Frag) (hr : Room j X.A) (h : X.K = K := by rfl) : OpR X (compareOp .Eq) (rEqId K) := by subst h; exact op_eqId hr.units0
theorem op_neIdK (K : PySem.W.Frag) (hr : Room j X.A) (h : X.K = K := by rfl) : OpR X (compareOp .NotEq) (rNeId K) := by subst h; exact op_neId hr.units0
def gSl (to : TE) (tl th : TO) : TG := fun v σ H Q => to σ H fun o H1 => tl σ H1 fun l H2 => th σ H2 fun u H3 => ∃ p b xs ys a c, o = .ref p ∧ v = .ref b ∧ l = some a ∧ u = some c ∧ p ≠ b ∧ H3 p = some (.lst xs) ∧ H3 b = some (.lst ys) ∧ 0 ≤ a ∧ a ≤ c ∧ c ≤ xs.length ∧ xs.length + ys.length ≤ sizeLine ∧
  Q σ (upd H3 p (.lst (xs.take a.toNat ++ ys ++ xs.drop c.toNat)))
theorem pg_slice {o : Expr} {lo hi : Option Expr} {p2 pos : Pos} {to : TE} {tl th : TO} (ho : PE X o to) (hl : PO X lo tl) (hu : PO X hi th)
    (ha : ∀ v, assign (.Subscript o (.Slice lo hi none p2) pos) X.env v = (do
      let ov ← holding [v] (eval o X.env)
      let iv ← holding [v, ov] (eval (.Slice lo hi none p2) X.env)
      standAt pos
      holding [v, ov, iv] (setItem ov iv v)
      release [iv, v, ov] []) := by intro _; rfl) : PG X (.Subscript o (.Slice lo hi none p2) pos) (gSl to tl th) := by
  refine ⟨fun pins s σ H v u Q I r h => ?_⟩
  rw [ha]
  refine wpAny_bind (wpAny_holding (thn (ho.run pins s σ H _ I h) fun ov s1 ⟨x, H1, I1, r1, q1⟩ => ?_))
  refine wpAny_bind (wpAny_holding (wpAny_Slice (thn (hl.run pins s1 σ H1 _ I1 q1) fun vl s2 ⟨l, H2, I2, pl, q2⟩ => thn (hu.run pins s2 σ H2 _ I2 q2) fun vu s3 ⟨c, H3, I3, pu, q3⟩ => ?_)))
  rw [evalPart_none]
  refine wpAny_pure ?_
  have I4 : Inv X pins σ H3 { s3 with heap := s3.heap.push { cls := .type "slice", data := .fields #[vl, vu, .none] } } := I3.kept (t' := s3.toks) fun b ob q => Heap.get?_push_of_some _ q
  obtain ⟨p, b, xs, ys, a, c, rfl, rfl, rfl, rfl, hne, hp, hb, h0, hac, hc, hz, q⟩ := q3
  cases r1
  cases r
  cases pl
  cases pu
  refine wpAny_bind (wpAny_standAt (wpAny_bind (wpAny_holding (set_slice I4 hp hb hne (Heap.IsSliceOf.new _ _ _ _) ⟨_, rfl⟩ ⟨_, rfl⟩ h0 hac hc hz fun s5 I5 => ?_))))
  exact wpAny_release ⟨σ, _, I5, q⟩
end
end LX
namespace LX
open PySem PySem.Spec PyProof.Rows L2 C8 SX
theorem ext_tup (l : Addr) (items : Array Value) (n : Nat) (b : Addr) (items2 : Array Value) (n2 : Nat) (dd : Option Addr) (sl : Array (Option Value)) (hs0 : ¬(!items.isEmpty && Builtin.List.listTooLong (items.size + items2.size)) = true) (hs1 : items.size ≤ sizeLine) (hs2 : items.size + items2.size ≤ sizeLine + 1) :
    Meets (Builtin.«list.extend» ⟨[.ref l, .ref b], []⟩) (fun _ R s => s.heap.get? l = some { cls := .type "list", data := .seq items n } ∧ s.heap.get? b = some { cls := .type "tuple", dict := dd, data := .seq items2 n2, slots := sl } ∧ R (.ok (.ret Value.none)) { s with heap := s.heap.update l (Obj.mapSeq fun x => x ++ items2) }) :=
  .of_wp fun prog w A R s h => by
    obtain ⟨hl, hb, h⟩ := h
    obtain ⟨hp, g, d, tk, os⟩ := s
    have f1 := PySem.AutoSeq1.sub_tuple_tuple
    have f2 := PySem.AutoSeq1.sub_list_list
    have f3 := PySem.AutoSeq1.sub_tuple_list
    have f4 := PySem.AutoSeq1.sub_list_tuple
    have hz' : (items ++ items2).size ≤ sizeLine + 1 := by rw [Array.size_append]; exact hs2
    wp_walk using (wpAny_updateSeq hl rfl (hz := hs1) (_hz' := hz')), PySem.AutoSeq1.wpAny_loadPart' hl, PySem.AutoSeq1.wpAny_loadPart' hb
    exact ⟨_, rfl, h⟩
section
variable {X : Cx}
def rExtendT : V → List V → Hp → VK → Prop := fun x vs H Q => ∃ l b xs zs, x = .ref l ∧ vs = [.ref b] ∧ H l = some (.lst xs) ∧ H b = some (.tup zs) ∧ xs.length + zs.length ≤ sizeLine ∧ Q .non (upd H l (.lst (xs ++ zs)))
theorem mt_extendT : MtM X "list.extend" rExtendT := by
  intro pins s σ H x vs v us Q I rx rv h
  obtain ⟨l, b, xs, zs, rfl, rfl, hH, hB, hz, q⟩ := h
  cases rx
  obtain ⟨u, rfl, ru⟩ := rv.one
  cases ru
  obtain ⟨z, its, n, r, hl, e⟩ := I.lstM hH
  obtain ⟨hl2, its2, r2, e2⟩ := (show ObjOk X.prog X.w H s.heap b (.tup zs) from I.hok b _ hB)
  have q2 := r2.length
  have q1 := r.length
  obtain ⟨⟨cls, dd, data, sl⟩, e2, hc, n2, hd⟩ := e2
  simp only at hc hd
  subst hc hd
  have hsz : its.toArray.size + its2.toArray.size ≤ sizeLine := by rw [List.size_toArray, List.size_toArray]; omega
  have hlong : ¬ (!its.toArray.isEmpty && Builtin.List.listTooLong (its.toArray.size + its2.toArray.size)) = true := by
    rw [notLongL hsz, Bool.and_false]
    exact Bool.false_ne_true
  refine call_meets F.slot_list_extend ⟨_, e, rfl⟩ F.entry_list_extend (F.args_list_extend_2 _ _)
    (ext_tup l its.toArray n b its2.toArray n2 dd sl hlong (by rw [List.size_toArray]; omega) (by omega)) ⟨e, e2, ?_⟩
  refine ⟨.non, _, I.lset (its' := its ++ its2) hH e (by simp) (r.append r2) ?_, rfl, q⟩
  rw [List.length_append]
  omega
end
end LX
set_option maxHeartbeats 4000000
namespace LX
open PySem PySem.Spec PyProof.Rows L2 C8 SX
structure MakXK (P : Program) (w : World) (K : PySem.W.Frag) (mg : Str → Option Value) (base : Heap) (k : Nat) (x : Str) (C : Addr) (ks : List Str) (gV : List V → List V → List V) (sp : Sp) : Prop where
  ex : ∃ (f : Addr) (fd : FuncData) (ps : List Str) (g : List Value → List Value → List Value), Mk K C f ∧ FnOk P w K mg base (L2.CX P w) k f fd ps sp ∧ mg x = some (.ref C) ∧ KBn K fd ps 1 ks g gV
def tMakeK (C : Addr) (m : Nat) (sp : Sp) (gV : List V → List V → List V) (E : L2.St → XK) (tk : TA) : TE := fun σ H Q => tk σ H fun zs H2 => zs.length = m ∧
  ∀ x dx, H2 x = none → H2 dx = none → dx ≠ x → sp (gV [.ref x] zs) (upd (upd H2 dx (.own x)) x (.ins C dx [])) (fun v H3 => v = .non ∧ Q (.ref x) H3) (E σ)
section
variable {X : Cx} {k j : Nat} {C : Addr} {sp : Sp} {x : Str} {ks : List Str} {p pos : Pos} {tk : TA} {kws : List Keyword} {W : WX} {gV : List V → List V → List V}
theorem pe_mkXk (c : MakXK X.prog X.w X.K X.mg X.base k x C ks gV sp) (tk' : Takes X W) (hr : Room j X.A) (hk : k + 1 ≤ j) (hg : Gl X x) (hkw : PK X kws tk) (hall : (backToKw pos (keywordEach kws X.env)).all (·.1.isSome) = true := by rfl) (hks : (backToKw pos (keywordEach kws X.env)).filterMap (·.1) = ks := by rfl)
    (hdb : (x == ("__debug__" : Str)) = false := by decide)
    (hpl : ((backTo pos (starEach [] X.env)).any (·.1) || (backToKw pos (keywordEach kws X.env)).any (·.1.isNone)) = false := by rfl) : PE X (.Call (.Name x p) [] kws pos) (tMakeK C ks.length sp gV (WE W) tk) := by
  obtain ⟨f, fd, ps, g, M, F, hm, kb⟩ := c.ex
  refine ⟨fun pins s σ H Q I h => ?_⟩
  refine wpAny_Call_Name_kw (ld_glob I hg hm ?_ hdb)
  refine PySem.W.callWith_KW0 (h₀ := X.base) I.ok.mod.kin M.kp hall (thn (hkw.run pos pins s σ H _ I h) fun ws s2 ⟨zs, H2, I2, rz, hz, q2⟩ => ⟨I2.kIn, ?_⟩) hpl
  rw [hks]
  have hq := q2 (s2.heap.objs.size + 1) s2.heap.objs.size (I2.hok.fresh (Nat.le_succ _)) (I2.hok.fresh (Nat.le_refl _)) (Nat.ne_of_lt (Nat.lt_succ_self _))
  have I3 := Inv.made (C := C) I2
  have r2 := kb.rel (vs := [V.ref (s2.heap.objs.size + 1)]) (us := [Value.ref (s2.heap.objs.size + 1)]) (.cons rfl .nil) rz
  have e2 : ws.length = ks.length := rz.length.symm.trans hz
  refine wpAny_call (make_map (f := f) I2.kIn M.makes M.init (beq_iff_eq.mp M.fn) (codeAny_mono (F.run _ X.stack _ _ ⟨[Value.ref (s2.heap.objs.size + 1)], ks.zip ws⟩ (g [Value.ref (s2.heap.objs.size + 1)] ws) _ _ (WE W σ) ((hr.mono hk).make C [] (ks.zip ws))
    (I3.env0.make C [] (ks.zip ws)) (kb.to _ [Value.ref (s2.heap.objs.size + 1)] ws I3.kIn rfl e2) r2 hq) fun r s' hq' => ?_))
  cases r with
  | error e => exact passAt tk' σ pins _ _ e s' I3 hq'
  | ok fl =>
    cases fl with
    | ret u =>
      obtain ⟨v, H', I4, rv, ev, q3⟩ := I3.after hq'
      subst ev
      exact ⟨rv, ⟨V.ref (s2.heap.objs.size + 1), H', I4, rfl, q3⟩⟩
    | next => exact False.elim hq'
    | brk => exact False.elim hq'
    | cont => exact False.elim hq'
end
end LX
set_option maxHeartbeats 1000000
namespace Toy
open PySem L2 C8 SX LX
def top (i : Nat) : Stmt := PySem.Challenge.pw_allrows_k24_sights_made_and_refused.main.body.getD i (.Pass ⟨0, 0, 0, 0⟩)
structure BT (mg : Str → Option Value) : Prop where
  m_int : mg "int" = none
  m_len : mg "len" = none
  m_abs : mg "abs" = none
  m_str : mg "str" = none
  m_list : mg "list" = none
  m_tuple : mg "tuple" = none
  m_dict : mg "dict" = none
  m_set : mg "set" = none
  m_isinstance : mg "isinstance" = none
  m_all : mg "all" = none
  m_zip : mg "zip" = none
  m_enumerate : mg "enumerate" = none
  m_range : mg "range" = none
  m_max : mg "max" = none
  m_min : mg "min" = none
  m_sorted : mg "sorted" = none
  m_repr : mg "repr" = none
  m_bool : mg "bool" = none
def flo (c : Addr) (s n : Int) : HO := .lst [.ref c, .int s, .int n]
def FlowAt (f c : Addr) (H : Hp) : Prop := f ≠ c ∧ (∃ s n : Int, H f = some (flo c s n)) ∧ ∃ cs : List Int, H c = some (.lst (inz cs)) ∧ cs.length ≤ 63
def Fx (f c : Addr) (H H' : Hp) : Prop := (∀ a o, a ≠ f → a ≠ c → H a = some o → H' a = some o) ∧ FlowAt f c H'
theorem Fx.flow {f c : Addr} {H H' : Hp} (h : Fx f c H H') : FlowAt f c H' := h.2
theorem Fx.refl {f c : Addr} {H : Hp} (h : FlowAt f c H) : Fx f c H H := ⟨fun _ _ _ _ e => e, h⟩
theorem Fx.trans {f c : Addr} {H H1 H2 : Hp} (p : Fx f c H H1) (q : Fx f c H1 H2) : Fx f c H H2 := ⟨fun a o n m e => q.1 a o n m (p.1 a o n m e), q.2⟩
theorem Fx.cells {f c : Addr} {H H1 : Hp} {cs : List Int} (p : Fx f c H H1) (hc : cs.length ≤ 63) : Fx f c H (upd H1 c (.lst (inz cs))) := by
  obtain ⟨p1, n, ⟨s, t, e⟩, _⟩ := p
  exact ⟨fun a o n1 n2 z => by rw [upd_ne n2]; exact p1 a o n1 n2 z, n, ⟨s, t, by rw [upd_ne n]; exact e⟩, cs, upd_same, hc⟩
theorem Fx.nums {f c : Addr} {H H1 : Hp} {s t : Int} (p : Fx f c H H1) : Fx f c H (upd H1 f (flo c s t)) := by
  obtain ⟨p1, n, _, cs, e, hc⟩ := p
  exact ⟨fun a o n1 n2 z => by rw [upd_ne n1]; exact p1 a o n1 n2 z, n, ⟨s, t, upd_same⟩, cs, by rw [upd_ne n.symm]; exact e, hc⟩
theorem flow_ne {f c p : Addr} {H : Hp} (h : FlowAt f c H) (n : H p = none) : p ≠ f ∧ p ≠ c := by
  obtain ⟨_, ⟨s, t, e⟩, cs, e', _⟩ := h
  exact ⟨(ne_of_none e n).symm, (ne_of_none e' n).symm⟩
theorem Fx.put {f c p : Addr} {H H1 : Hp} {o : HO} (q : Fx f c H H1) (n : H1 p = none) (h : H p = none) : Fx f c H (upd H1 p o) := by
  obtain ⟨n1, n2⟩ := flow_ne q.2 n
  obtain ⟨q1, nn, ⟨s, t, e⟩, cs, e', hc⟩ := q
  exact ⟨fun a o' m1 m2 z => by rw [upd_ne (fun w => by rw [w, h] at z; cases z)]; exact q1 a o' m1 m2 z, nn, ⟨s, t, by rw [upd_ne n1.symm]; exact e⟩, cs, by rw [upd_ne n2.symm]; exact e', hc⟩
theorem Fx.free {f c p : Addr} {H H1 : Hp} (q : Fx f c H H1) (n : H1 p = none) : H p = none := by
  cases z : H p with
  | none => rfl
  | some o =>
    obtain ⟨n1, n2⟩ := flow_ne q.2 n
    rw [q.1 p o n1 n2 z] at n
    cases n
theorem fx_own {f c p : Addr} {H H1 : Hp} {o : HO} (q : Fx f c H H1) (h : H p = none) (n : p ≠ f ∧ p ≠ c := by assumption) : Fx f c H (upd H1 p o) := by
  obtain ⟨q1, nn, ⟨s, t, e⟩, cs, e', hc⟩ := q
  exact ⟨fun a o' m1 m2 z => by rw [upd_ne (fun w => by rw [w, h] at z; cases z)]; exact q1 a o' m1 m2 z, nn, ⟨s, t, by rw [upd_ne n.1.symm]; exact e⟩, cs, by rw [upd_ne n.2.symm]; exact e', hc⟩
local macro_rules | `(tactic| walk_at "c") => `(tactic| refine And.intro (by first | (show (0 : Int) < _; omega) | exact Or.inr ⟨by decide, by decide⟩ | exact Or.inl ⟨by decide, by decide⟩ | (exact ⟨by omega, by omega⟩)) ?_)
local macro_rules | `(tactic| walk_at "s1") => `(tactic| first | refine ⟨_, rfl, ?_⟩ | refine ⟨_, _, rfl, rfl, ?_⟩ | refine .inl ⟨_, rfl, ?_⟩ | walk_at "c")
local macro_rules | `(tactic| walk_at "s") => `(tactic| repeat (walk_at "s1"))
section
variable {P : Program} {w : World} {K : PySem.W.Frag} {mg : Str → Option Value} {base : Heap}
abbrev s_less : Stmt := top 40
abbrev n_less : List Str := ["flow", "wide", "great"]
theorem sc_less : FnScope n_less ["flow", "wide"] (fnScope s_less) := fnScope_by (by decide +kernel)
def spLess : Sp := fun vs H Q _ => ∃ (f c : Addr) (n : Int), vs = [.ref f, .int n] ∧ FlowAt f c H ∧ 0 < n ∧ n < 1073741824 ∧
  ∀ (d : Int) (H' : Hp), 0 ≤ d → d < n → Fx f c H H' → Q (.int d) H'
theorem ok_less (T : BT mg) {g : Addr} {fd : FuncData} (F : Def K mg "_law_less" s_less g fd) (b : Binds K fd ["flow", "wide"] []) : Cal P w K mg base 1 "_law_less" spLess [] := by
  refine cal0 F b .nil sc_less (fun vs H Q E h => ?_) (fun cdv A outer s H vs Q E hr h => ?_)
  · obtain ⟨f, c, n, rfl, _⟩ := h; rfl
  · obtain ⟨f, c, n, rfl, hf, n0, n1, k⟩ := h
    refine ⟨_, (pss_cons (ps_while PassesOwn.never (PW.pt (pw_and (pt_cmpR (op_neE hr) (pe_ix (ixl K) (pv 0) pe_int (fun _ _ => rfl)) (pe_lst pa_nil) (nomark _)) (pw_and1 (pt_cmpR op_eq (pe_ix (ixl K) (pe_ix (ixl K) (pv 0) pe_int (fun _ _ => rfl)) (pe_un un_neg pe_int) (fun _ _ => rfl)) pe_int (nomark _))))) 
        (pss_one (ps_expr (pe_bm0 PySem.F.plainAttrs_list PySem.F.slot_list_pop PySem.F.type_list_pop mt_pop (pe_ix (ixl K) (pv 0) pe_int (fun _ _ => rfl))))
        ))
      (pss_cons (ps_if (pt_cmpR (op_neE hr) (pe_ix (ixl K) (pv 0) pe_int (fun _ _ => rfl)) (pe_lst pa_nil) (nomark _)) 
        (pss_cons (ps_set (i := 2) sc_less.nd rfl (.inl rfl) (pe_bm0 PySem.F.plainAttrs_list PySem.F.slot_list_pop PySem.F.type_list_pop mt_pop (pe_ix (ixl K) (pv 0) pe_int (fun _ _ => rfl))))
        (pss_cons (ps_expr (pe_bm PySem.F.plainAttrs_list PySem.F.slot_list_append PySem.F.type_list_append mt_append (pe_ix (ixl K) (pv 0) pe_int (fun _ _ => rfl)) (pa_cons (pe_op op_fdiv (pv 2) (pv 1)) pa_nil)))
        (pss_one (ps_ret (pe_op op_mod (pe_callTy call_int1 (by rfl) T.m_int PyProof.Rows.boot_int (pa_cons (pv 2) pa_nil)) (pv 1)))
        )))
       pss_nil)
      (pss_cons (ps_asg (pe_op op_add (pe_ix (ixl K) (pv 0) pe_int (fun _ _ => rfl)) pe_int) (pg_sub (pv 0) pe_int set_list))
      (pss_cons (ps_asg (pe_op op_mod (pe_callTy call_int1 (by rfl) T.m_int PyProof.Rows.boot_int (pa_cons (pe_op op_add (pe_op op_mul (pe_ix (ixl K) (pv 0) pe_int (fun _ _ => rfl)) pe_int) (pe_op op_mul pe_int (pe_ix (ixl K) (pv 0) pe_int (fun _ _ => rfl)))) pa_nil)) pe_int) (pg_sub (pv 0) pe_int set_list))
      (pss_one (ps_ret (pe_op op_mod (pe_callTy call_int1 (by rfl) T.m_int PyProof.Rows.boot_int (pa_cons (pe_op op_fdiv (pe_ix (ixl K) (pv 0) pe_int (fun _ _ => rfl)) pe_int) pa_nil)) (pv 1)))
      ))))), ?_⟩
    refine ⟨fun m σ H' => ∃ cs : List Int, m = cs.length ∧ σ = [some (.ref f), some (.int n), none] ∧ Fx f c H H' ∧ H' c = some (.lst (inz cs)) ∧ cs.length ≤ 63, ?_, ?_⟩
    · obtain ⟨nn, e, cs, e', hc⟩ := hf
      exact ⟨cs.length, cs, rfl, rfl, Fx.refl ⟨nn, e, cs, e', hc⟩, e', hc⟩
    rintro m σ H1 ⟨cs, rfl, rfl, hF, hcs, hl⟩
    obtain ⟨nn, ⟨s1, t1, hf1⟩, _⟩ := hF.2
    refine ⟨_, rfl, f, _, 0, _, rfl, rfl, SqL.of hf1, rfl, ?_⟩
    refine ⟨by show 0 ≤ sizeLine; decide, fun p hp => ?_⟩
    refine ⟨c, p, cs, rfl, rfl, ?_, upd_same, ?_⟩
    · rw [upd_ne (flow_ne hF.2 hp).2.symm]; exact hcs
    have hF2 : Fx f c H (upd H1 p (.lst [])) := hF.put hp (hF.free hp)
    have hcs2 : (upd H1 p (.lst [])) c = some (.lst (inz cs)) := by rw [upd_ne (flow_ne hF.2 hp).2.symm]; exact hcs
    have hff2 : (upd H1 p (.lst [])) f = some (flo c s1 t1) := by rw [upd_ne (flow_ne hF.2 hp).1.symm]; exact hf1
    generalize upd H1 p (.lst []) = H2 at hF2 hcs2 hff2
    refine ⟨_, rfl, ?_⟩
    rcases List.eq_nil_or_concat cs with rfl | ⟨ds, z, rfl⟩
    · refine iteN rfl (iteN rfl ?_)
      refine nxt ?_
      dsimp only
      refine ⟨_, rfl, f, _, 0, _, rfl, rfl, SqL.of hff2, rfl, ?_⟩
      refine ⟨by show 0 ≤ sizeLine; decide, fun p2 hp2 => ?_⟩
      refine ⟨c, p2, [], rfl, rfl, by rw [upd_ne (flow_ne hF2.2 hp2).2.symm]; exact hcs2, upd_same, ?_⟩
      have hF3 : Fx f c H (upd H2 p2 (.lst [])) := hF2.put hp2 (hF2.free hp2)
      have hff3 : (upd H2 p2 (.lst [])) f = some (flo c s1 t1) := by rw [upd_ne (flow_ne hF2.2 hp2).1.symm]; exact hff2
      generalize upd H2 p2 (.lst []) = H3 at hF3 hff3
      refine ⟨_, rfl, iteN rfl ?_⟩
      refine nxt ?_
      dsimp only
      refine ⟨_, rfl, f, _, 2, _, rfl, rfl, SqL.of hff3, rfl, ?_⟩
      walk_at "s"
      refine ⟨f, _, 2, _, rfl, rfl, hff3, rfl, ?_⟩
      have hF4 : Fx f c H (upd H3 f (.lst ([V.ref c, V.int s1, V.int t1].set (Int.toNat 2) (V.int (t1 + 1))))) := hF3.nums (s := s1) (t := t1 + 1)
      have hff4 : (upd H3 f (.lst ([V.ref c, V.int s1, V.int t1].set (Int.toNat 2) (V.int (t1 + 1))))) f = some (flo c s1 (t1 + 1)) := upd_same
      dsimp only
      generalize upd H3 f (.lst ([V.ref c, V.int s1, V.int t1].set (Int.toNat 2) (V.int (t1 + 1)))) = H4 at hF4 hff4
      refine ⟨_, rfl, f, _, 1, _, rfl, rfl, SqL.of hff4, rfl, ?_⟩
      walk_at "s"
      refine ⟨f, _, 2, _, rfl, rfl, SqL.of hff4, rfl, ?_⟩
      walk_at "s"
      refine ⟨f, _, 1, _, rfl, rfl, hff4, rfl, ?_⟩
      have hF5 : Fx f c H (upd H4 f (.lst ([V.ref c, V.int s1, V.int (t1 + 1)].set (Int.toNat 1) (V.int ((s1 * 39373 + 113 * (t1 + 1)) % 2147483629))))) := hF4.nums (s := (s1 * 39373 + 113 * (t1 + 1)) % 2147483629) (t := t1 + 1)
      have hff5 : (upd H4 f (.lst ([V.ref c, V.int s1, V.int (t1 + 1)].set (Int.toNat 1) (V.int ((s1 * 39373 + 113 * (t1 + 1)) % 2147483629))))) f = some (flo c ((s1 * 39373 + 113 * (t1 + 1)) % 2147483629) (t1 + 1)) := upd_same
      dsimp only
      generalize upd H4 f (.lst ([V.ref c, V.int s1, V.int (t1 + 1)].set (Int.toNat 1) (V.int ((s1 * 39373 + 113 * (t1 + 1)) % 2147483629)))) = H5 at hF5 hff5
      refine ⟨_, rfl, f, _, 1, _, rfl, rfl, SqL.of hff5, rfl, ?_⟩
      walk_at "s"
      exact k _ _ (Int.emod_nonneg _ (by omega)) (Int.emod_lt_of_pos _ n0) hF5
    · refine iteB (by simp) ?_
      refine ⟨_, rfl, f, _, 0, _, rfl, rfl, SqL.of hff2, rfl, ?_⟩
      refine ⟨_, rfl, c, _, -1, .int z, rfl, rfl, SqL.of hcs2, at_last (by rw [inz_len]; simp) (by unfold inz; simp), ?_⟩
      refine ⟨rfl, ?_⟩
      refine ⟨_, rfl, ?_⟩
      refine ite2 (fun hz => ?_) (fun hz => ?_)
      · refine ⟨fun σ' H' => ∃ cs : List Int, cs.length < (ds.concat z).length ∧ σ' = [some (.ref f), some (.int n), none] ∧ Fx f c H H' ∧ H' c = some (.lst (inz cs)) ∧ cs.length ≤ 63,
          fun σ' H' ⟨cs, a1, a2, a3, a4, a5⟩ => ⟨cs.length, a1, cs, rfl, a2, a3, a4, a5⟩, ?_⟩
        refine ⟨_, rfl, f, _, 0, _, rfl, rfl, SqL.of hff2, rfl, ?_⟩
        refine ⟨.inl ⟨rfl, _, SqL.of hcs2⟩, c, _, .int z, rfl, rfl, hcs2, by unfold inz; simp, ?_⟩
        have e : (inz (ds.concat z)).dropLast = inz ds := by unfold inz; simp
        rw [e]
        have hd : ds.length ≤ 63 := by simp at hl; omega
        exact ⟨ds, by simp, rfl, hF2.cells hd, upd_same, hd⟩
      · refine nxt ?_
        dsimp only
        refine ⟨_, rfl, f, _, 0, _, rfl, rfl, SqL.of hff2, rfl, ?_⟩
        refine ⟨by show 0 ≤ sizeLine; decide, fun p2 hp2 => ?_⟩
        have hcs3 : (upd H2 p2 (.lst [])) c = some (.lst (inz (ds.concat z))) := by rw [upd_ne (flow_ne hF2.2 hp2).2.symm]; exact hcs2
        refine ⟨c, p2, ds.concat z, rfl, rfl, hcs3, upd_same, ?_⟩
        have hF3 : Fx f c H (upd H2 p2 (.lst [])) := hF2.put hp2 (hF2.free hp2)
        have hff3 : (upd H2 p2 (.lst [])) f = some (flo c s1 t1) := by rw [upd_ne (flow_ne hF2.2 hp2).1.symm]; exact hff2
        generalize upd H2 p2 (.lst []) = H3 at hF3 hff3 hcs3
        refine ⟨_, rfl, iteB (by simp) ?_⟩
        refine ⟨_, rfl, f, _, 0, _, rfl, rfl, SqL.of hff3, rfl, ?_⟩
        refine ⟨.inl ⟨rfl, _, SqL.of hcs3⟩, c, _, .int z, rfl, rfl, hcs3, by unfold inz; simp, ?_⟩
        have e : (inz (ds.concat z)).dropLast = inz ds := by unfold inz; simp
        rw [e]
        have hd : ds.length + 1 ≤ 63 := by simpa using hl
        have hF4 := hF3.cells (cs := ds) (by omega)
        have hcs4 : (upd H3 c (.lst (inz ds))) c = some (.lst (inz ds)) := upd_same
        have hff4 : (upd H3 c (.lst (inz ds))) f = some (flo c s1 t1) := by rw [upd_ne nn]; exact hff3
        generalize upd H3 c (.lst (inz ds)) = H4 at hF4 hcs4 hff4
        walk_at "s"
        refine ⟨f, _, 0, _, rfl, rfl, SqL.of hff4, rfl, ?_⟩
        refine ⟨.inl ⟨rfl, _, SqL.of hcs4⟩, ?_⟩
        walk_at "s"
        refine ⟨c, _, _, rfl, rfl, hcs4, by rw [inz_len]; show ds.length + 1 ≤ sizeLine; have : 64 ≤ sizeLine := by decide
                                            omega, ?_⟩
        have e2 : inz ds ++ [.int (z / n)] = inz (ds ++ [z / n]) := by unfold inz; simp
        rw [e2]
        have hF5 := hF4.cells (cs := ds ++ [z / n]) (by simp; omega)
        walk_at "s"
        exact k _ _ (Int.emod_nonneg _ (by omega)) (Int.emod_lt_of_pos _ n0) hF5
theorem fx_l {f c p : Addr} {H H' : Hp} {xs : List V} (e : Fx f c H H') (n : p ≠ f ∧ p ≠ c) (h : SqL K H p xs) : SqL K H' p xs := by
  rcases h with (h | ⟨o, h⟩) | h
  · exact .inl (.inl (e.1 _ _ n.1 n.2 h))
  · exact .inl (.inr ⟨o, e.1 _ _ n.1 n.2 h⟩)
  · exact .inr h
theorem fx_t {f c p : Addr} {H H' : Hp} {xs : List V} (e : Fx f c H H') (n : p ≠ f ∧ p ≠ c) (h : SqT K H p xs) : SqT K H' p xs := by
  rcases h with (h | ⟨o, h⟩) | h
  · exact .inl (.inl (e.1 _ _ n.1 n.2 h))
  · exact .inl (.inr ⟨o, e.1 _ _ n.1 n.2 h⟩)
  · exact .inr h
theorem fx_v {f c : Addr} {H H' : Hp} {x : V} {ys : List V} (e : Fx f c H H') (n : ∀ p, x = .ref p → p ≠ f ∧ p ≠ c) (h : SeqV K H x ys) : SeqV K H' x ys := by
  rcases h with ⟨p, rfl, h | h⟩ | h
  · exact .inl ⟨p, rfl, .inl (fx_l e (n p rfl) h)⟩
  · exact .inl ⟨p, rfl, .inr (fx_t e (n p rfl) h)⟩
  · exact .inr h
abbrev s_anyof : Stmt := top 41
abbrev n_anyof : List Str := ["flow", "some"]
theorem sc_anyof : FnScope n_anyof ["flow", "some"] (fnScope s_anyof) := fnScope_by (by decide +kernel)
def spAny : PySem.W.Frag → Sp := fun K vs H Q _ => ∃ (f c : Addr) (x : V) (ys : List V), vs = [.ref f, x] ∧ FlowAt f c H ∧ (∀ p, x = .ref p → p ≠ f ∧ p ≠ c) ∧ SeqV K H x ys ∧ 0 < ys.length ∧ ys.length < 1000 ∧
  ∀ (v : V) (H' : Hp), v ∈ ys → Fx f c H H' → Q v H'
theorem ok_any (T : BT mg) (c_less : Cal P w K mg base 1 "_law_less" spLess []) {g : Addr} {fd : FuncData} (F : Def K mg "_law_any_of" s_anyof g fd) (b : Binds K fd ["flow", "some"] []) : Cal P w K mg base 2 "_law_any_of" (spAny K) [] := by
  refine cal0 F b .nil sc_anyof (fun vs H Q E h => ?_) (fun cdv A outer s H vs Q E hr h => ?_)
  · obtain ⟨f, c, x, ys, rfl, _⟩ := h; rfl
  · obtain ⟨f, c, x, ys, rfl, hf, hn, hx, h0, h1, k⟩ := h
    refine ⟨_, (pss_one (ps_ret (pe_ix (ixA K) (pv 1) (pe_c c_less hr (by first | decide | omega) (by rfl) (pa_cons (pv 0) (pa_cons (pe_callB (lenA K) (by rfl) T.m_len (by rfl) (pa_cons (pv 1) pa_nil)) pa_nil))) (fun _ _ => rfl)))
      ), ?_⟩
    walk_at "s"
    refine ⟨_, _, rfl, hx, ?_⟩
    refine ⟨f, c, (ys.length : Int), rfl, hf, by omega, by omega, fun d H' d0 d1 hB => ?_⟩
    have hd : d.toNat < ys.length := by omega
    refine ⟨_, _, ys[d.toNat], rfl, fx_v hB hn hx, ?_, ?_⟩
    · exact at_of (by omega) (List.getElem?_eq_getElem hd)
    · exact k _ _ (List.getElem_mem hd) hB
abbrev s_shaken : Stmt := top 42
abbrev n_shaken : List Str := ["flow", "some", "left", "found", "turn"]
theorem sc_shaken : FnScope n_shaken ["flow", "some"] (fnScope s_shaken) := fnScope_by (by decide +kernel)
def spShaken : PySem.W.Frag → Sp := fun K vs H Q _ => ∃ (f c l : Addr) (xs : List (List Nat)), vs = [.ref f, .ref l] ∧ FlowAt f c H ∧ (l ≠ f ∧ l ≠ c) ∧ SqL K H l (txs xs) ∧ xs.length < 1000 ∧
  ∀ (ys : List (List Nat)) (p : Addr) (H' : Hp), ys.Perm xs → H p = none → Fx f c H H' → H' p = some (.lst (txs ys)) → Q (.ref p) H'
theorem ok_shaken (T : BT mg) (c_less : Cal P w K mg base 1 "_law_less" spLess []) {g : Addr} {fd : FuncData} (F : Def K mg "_law_shaken" s_shaken g fd) (b : Binds K fd ["flow", "some"] []) : Cal P w K mg base 2 "_law_shaken" (spShaken K) [] := by
  refine cal0 F b .nil sc_shaken (fun vs H Q E h => ?_) (fun cdv A outer s H vs Q E hr h => ?_)
  · obtain ⟨f, c, l, xs, rfl, _⟩ := h; rfl
  · obtain ⟨f, c, l, xs, rfl, hf, hln, hl, h1, k⟩ := h
    refine ⟨_, (pss_cons (ps_par (i := 2) (j := 3) rfl sc_shaken.nd rfl rfl (by decide) rfl rfl (pa_cons (pe_callTy (listK K) (by rfl) T.m_list PyProof.Rows.boot_list (pa_cons (pv 1) pa_nil)) (pa_cons (pe_lst pa_nil) pa_nil)) rfl)
      (pss_cons (ps_for PassesOwn.never rfl (pi_range1 (by rfl) T.m_range (pa_cons (pe_callB (lenK K) (by rfl) T.m_len PySem.boot_len (pa_cons (pv 1) pa_nil)) pa_nil)) (pg_name (i := 4) sc_shaken.nd rfl (.inl rfl)) 
        (pss_one (ps_expr (pe_bm PySem.F.plainAttrs_list PySem.F.slot_list_append PySem.F.type_list_append mt_append (pv 3) (pa_cons (pe_bm PySem.F.plainAttrs_list PySem.F.slot_list_pop PySem.F.type_list_pop mt_popAt (pv 2) (pa_cons (pe_c c_less hr (by first | decide | omega) (by rfl) (pa_cons (pv 0) (pa_cons (pe_callB (lenK K) (by rfl) T.m_len PySem.boot_len (pa_cons (pv 2) pa_nil)) pa_nil))) pa_nil)) pa_nil)))
        ))
      (pss_one (ps_ret (pv 3))
      ))), ?_⟩
    refine ⟨_, rfl, l, _, rfl, .inl hl, fun p hp => ?_⟩
    refine ⟨by show 0 ≤ sizeLine; decide, fun q hq => ?_⟩
    have hqp : q ≠ p := fun e => by rw [e, upd_same] at hq; cases hq
    have hq0 : H q = none := by rw [upd_ne hqp] at hq; exact hq
    have hpf := flow_ne hf hp
    have hF1 : Fx f c H (upd H p (.lst (txs xs))) := (Fx.refl hf).put hp hp
    have hqf := flow_ne hf hq0
    have hF2 : Fx f c H (upd (upd H p (.lst (txs xs))) q (.lst [])) := hF1.put hq hq0
    refine ⟨_, _, rfl, ?_⟩
    have hl2 : SqL K (upd (upd H p (.lst (txs xs))) q (.lst [])) l (txs xs) := fx_l hF2 hln hl
    have hp2 : (upd (upd H p (.lst (txs xs))) q (.lst [])) p = some (.lst (txs xs)) := by rw [upd_ne hqp.symm, upd_same]
    have hq2 : (upd (upd H p (.lst (txs xs))) q (.lst [])) q = some (.lst []) := upd_same
    generalize upd (upd H p (.lst (txs xs))) q (.lst []) = H2 at hF2 hl2 hp2 hq2
    refine ⟨_, rfl, l, _, rfl, .inl hl2, ?_⟩
    refine ⟨((txs xs).length : Int), rfl, by rw [txs_len]; omega, by rw [txs_len]; omega, ?_⟩
    rw [txs_len]
    refine for_it (walk_range (lo := 0)) (fun i σ H' => ∃ (rs fs : List (List Nat)) (s4 : Option V), σ = [some (.ref f), some (.ref l), some (.ref p), some (.ref q), s4] ∧ (rs ++ fs).Perm xs ∧ fs.length = i ∧ H' p = some (.lst (txs rs)) ∧ H' q = some (.lst (txs fs)) ∧ Fx f c H H')
      ⟨xs, [], _, rfl, by rw [List.append_nil], rfl, hp2, hq2, hF2⟩ (fun _ _ _ _ _ => trivial) ?_ ?_
    · rintro i x σ H3 H3' hi ⟨rs, fs, s4, rfl, hperm, hfi, hp3, hq3, hF3⟩ ⟨rfl, rfl⟩
      have hlen : rs.length + fs.length = xs.length := by rw [← List.length_append]; exact hperm.length_eq
      have hin : i < xs.length := by simpa using hi
      refine ⟨_, rfl, .inl ⟨rfl, _, SqL.of hq3⟩, ?_⟩
      refine ⟨_, rfl, .inl ⟨rfl, _, SqL.of hp3⟩, ?_⟩
      refine ⟨_, rfl, _, rfl, p, _, rfl, .inl (SqL.of hp3), ?_⟩
      rw [txs_len]
      refine ⟨f, c, (rs.length : Int), rfl, hF3.2, by omega, by omega, fun d H4 d0 d1 hB => ?_⟩
      have hp4 := hB.1 _ _ hpf.1 hpf.2 hp3
      have hq4 := hB.1 _ _ hqf.1 hqf.2 hq3
      have hF4 := hF3.trans hB
      have hd : d.toNat < rs.length := by omega
      refine ⟨p, txs rs, d, d.toNat, .str (S rs[d.toNat]), rfl, rfl, hp4, by omega, by omega, by rw [txs_len]; exact PySem.seqIndex_of d0 (by omega), ?_, ?_⟩
      · unfold txs; rw [List.getElem?_map, List.getElem?_eq_getElem hd]; rfl
      refine ⟨q, txs fs, _, rfl, rfl, by rw [upd_ne hqp]; exact hq4, by rw [txs_len]; exact small1000 (by omega), ?_⟩
      have e1 : (txs rs).eraseIdx d.toNat = txs (rs.eraseIdx d.toNat) := eraseIdx_map' _ _ _
      have e2 : txs fs ++ [.str (S rs[d.toNat])] = txs (fs ++ [rs[d.toNat]]) := by unfold txs; rw [List.map_append]; rfl
      rw [e1, e2]
      refine ⟨rs.eraseIdx d.toNat, fs ++ [rs[d.toNat]], _, rfl, ?_, by simp [hfi], by rw [upd_ne hqp.symm, upd_same], upd_same, fx_own (fx_own hF4 hp) hq0⟩
      refine List.Perm.trans ?_ hperm
      refine List.Perm.trans ?_ (List.Perm.append_right fs (perm_at hd))
      rw [← List.append_assoc]
      exact List.perm_append_comm
    · rintro σ H3 ⟨rs, fs, s4, rfl, hperm, hfi, hp3, hq3, hF3⟩
      have hlen : rs.length + fs.length = xs.length := by rw [← List.length_append]; exact hperm.length_eq
      have hrs : rs = [] := List.length_eq_zero_iff.mp (by simp at hfi; omega)
      subst hrs
      refine ⟨_, rfl, ?_⟩
      exact k fs q H3 hperm hq0 hF3 hq3
end
end Toy
set_option maxHeartbeats 1000000
namespace Toy
open PySem L2 C8 SX LX
local macro_rules | `(tactic| walk_at "c") => `(tactic| refine And.intro (by first | (show (0 : Int) < _; omega) | exact Or.inr ⟨by decide, by decide⟩ | exact Or.inl ⟨by decide, by decide⟩ | (exact ⟨by omega, by omega⟩)) ?_)
local macro_rules | `(tactic| walk_at "s1") => `(tactic| first | refine ⟨_, rfl, ?_⟩ | refine ⟨_, _, rfl, rfl, ?_⟩ | refine .inl ⟨_, rfl, ?_⟩ | walk_at "c")
local macro_rules | `(tactic| walk_at "s") => `(tactic| repeat (walk_at "s1"))
theorem s_nil : (Str.ofString "") = S [] := by decide +kernel
def Sg (sg : List Nat) : Prop := sg.Pairwise (· < ·) ∧ 1 ≤ sg.length ∧ sg.length ≤ 3 ∧ ∀ c ∈ sg, 97 ≤ c ∧ c ≤ 122
theorem txs_get {ims : List (List Nat)} {i : Nat} {x : V} (h : (txs ims)[i]? = some x) : ∃ l, ims[i]? = some l ∧ x = .str (S l) := by
  unfold txs at h
  rw [List.getElem?_map] at h
  cases q : ims[i]? with
  | none => rw [q] at h; cases h
  | some l => rw [q] at h; exact ⟨l, rfl, (Option.some.inj h).symm⟩
theorem txs_of {ims : List (List Nat)} {f : List Nat → List Nat} {ys : List V} (hl : ys.length = (txs ims).length) (h : ∀ (j : Nat) y, ys[j]? = some y → ∀ l, ims[j]? = some l → y = .str (S (f l))) : ys = txs (ims.map f) := by
  have e : txs (ims.map f) = ims.map fun l => V.str (S (f l)) := by unfold txs; rw [List.map_map]; rfl
  rw [e]
  exact list_map (by rw [hl, txs_len]) fun j y l e1 e2 => h j y e1 l e2
theorem keep_fx {f c : Addr} {H1 : Hp} (h : FlowAt f c H1) : Keep (Fx f c) H1 where
  refl := Fx.refl h
  trans := fun _ _ p q => p.trans q
  put := fun H D o s hD => fx_own s hD (flow_ne h hD)
  get := fun H H' D o s hD _ e => s.1 _ _ (flow_ne h hD).1 (flow_ne h hD).2 e
section
variable {P : Program} {w : World} {K : PySem.W.Frag} {mg : Str → Option Value} {base : Heap}
def alph : List (List Nat) := [[97, 98, 99], [97, 98, 122], [120, 121, 122], [97, 109, 110], [98, 99, 100]]
theorem s_abc : (Str.ofString "abc") = S [97, 98, 99] := by decide +kernel
theorem s_abz : (Str.ofString "abz") = S [97, 98, 122] := by decide +kernel
theorem s_xyz : (Str.ofString "xyz") = S [120, 121, 122] := by decide +kernel
theorem s_amn : (Str.ofString "amn") = S [97, 109, 110] := by decide +kernel
theorem s_bcd : (Str.ofString "bcd") = S [98, 99, 100] := by decide +kernel
theorem alph_sg : ∀ l ∈ alph, l.Pairwise (· < ·) ∧ l.length = 3 ∧ ∀ c ∈ l, 97 ≤ c ∧ c ≤ 122 := by decide
theorem sg_take {l : List Nat} (h : l ∈ alph) {d : Nat} (h1 : 1 ≤ d) (h3 : d ≤ 3) : Sg (l.take d) := by
  obtain ⟨a, b, c⟩ := alph_sg l h
  refine ⟨a.sublist (List.take_sublist _ _), ?_, ?_, fun x hx => c x (List.mem_of_mem_take hx)⟩
  · rw [List.length_take]; omega
  · rw [List.length_take]; omega
abbrev s_letters : Stmt := top 43
abbrev n_letters : List Str := ["flow", "most", "some"]
theorem sc_letters : FnScope n_letters ["flow", "most"] (fnScope s_letters) := fnScope_by (by decide +kernel)
def spLetters : Sp := fun vs H Q _ => ∃ (f c : Addr) (m : Nat), vs = [.ref f, .int m] ∧ FlowAt f c H ∧ 1 ≤ m ∧ m ≤ 3 ∧
  ∀ (sg : List Nat) (H' : Hp), Sg sg → 113 ∉ sg → sg.length ≤ m → Fx f c H H' → Q (.str (S sg)) H'
theorem ok_letters (T : BT mg) (c_less : Cal P w K mg base 1 "_law_less" spLess []) (c_anyof : Cal P w K mg base 2 "_law_any_of" (spAny K) []) {g : Addr} {fd : FuncData} (F : Def K mg "_law_letters" s_letters g fd) (b : Binds K fd ["flow", "most"] []) : Cal P w K mg base 3 "_law_letters" spLetters [] := by
  refine cal0 F b .nil sc_letters (fun vs H Q E h => ?_) (fun cdv A outer s H vs Q E hr h => ?_)
  · obtain ⟨f, c, m, rfl, _⟩ := h; rfl
  · obtain ⟨f, c, m, rfl, hf, m1, m3, k⟩ := h
    refine ⟨_, (pss_cons (ps_set (i := 2) sc_letters.nd rfl (.inl rfl) (pe_c c_anyof hr (by first | decide | omega) (by rfl) (pa_cons (pv 0) (pa_cons (pe_lst (pa_cons pe_str (pa_cons pe_str (pa_cons pe_str (pa_cons pe_str (pa_cons pe_str pa_nil)))))) pa_nil))))
      (pss_one (ps_ret (pe_slice sl_txt (pv 2) po_none (po_some (pe_op op_add pe_int (pe_c c_less hr (by first | decide | omega) (by rfl) (pa_cons (pv 0) (pa_cons (pv 1) pa_nil)))))))
      )), ?_⟩
    refine ⟨_, rfl, ?_⟩
    refine ⟨by decide, fun p hp => ?_⟩
    have hpn := flow_ne hf hp
    have hF1 : Fx f c H (upd H p (.lst [.str (Str.ofString "abc"), .str (Str.ofString "abz"), .str (Str.ofString "xyz"), .str (Str.ofString "amn"), .str (Str.ofString "bcd")])) := (Fx.refl hf).put hp hp
    refine ⟨f, c, .ref p, txs alph, rfl, hF1.2, fun q e => by cases e; exact hpn, .inl ⟨p, rfl, .inl (SqL.of (by rw [upd_same, s_abc, s_abz, s_xyz, s_amn, s_bcd]; rfl))⟩, by decide, by decide, fun v H1 hv hB => ?_⟩
    obtain ⟨l, hl, rfl⟩ := List.mem_map.mp hv
    have hF2 := hF1.trans hB
    walk_at "s"
    refine nil1 ⟨f, c, (m : Int), rfl, hF2.2, by omega, by omega, fun d H3 d0 d1 hB2 => ?_⟩
    refine ⟨1, d, rfl, rfl, ?_⟩
    refine ⟨_, rfl, ?_⟩
    have hl3 : l.length = 3 := (alph_sg l hl).2.1
    refine ⟨S l, rfl, by rw [S_len]; exact le1000 (by omega), ?_⟩
    rw [slice_to (by omega)]
    refine k _ _ (sg_take hl (by omega) (by omega)) (fun h => (show ∀ l ∈ alph, 113 ∉ l by decide) l hl (List.mem_of_mem_take h)) ?_ (hF2.trans hB2)
    rw [List.length_take]; omega
def Ov (sg l : List Nat) : Prop := ∀ c ∈ l, c ∈ sg
theorem singles_join : ∀ (ys : List V) (m : Nat) (sg : List Nat), ys.length = m → (∀ (j : Nat) y, ys[j]? = some y → ∃ c ∈ sg, y = .str (S [c])) → ∃ l : List Nat, l.length = m ∧ Ov sg l ∧ ys = (l.map fun c => V.str (S [c]))
  | [], m, sg, e, _ => ⟨[], e, (fun _ h => nomatch h), rfl⟩
  | y :: ys, m, sg, e, h => by
    obtain ⟨l, e1, o1, e2⟩ := singles_join ys (m - 1) sg (by simp at e; omega) fun j z q => h (j + 1) z q
    obtain ⟨c, hc, ec⟩ := h 0 y rfl
    refine ⟨c :: l, by simp at e ⊢; omega, fun d hd => ?_, by rw [ec, e2]; rfl⟩
    rcases List.mem_cons.mp hd with rfl | hd
    · exact hc
    · exact o1 d hd
abbrev s_line : Stmt := top 46
abbrev n_line : List Str := ["flow", "signs_here", "most", "turn"]
theorem sc_line : FnScope n_line ["flow", "signs_here", "most"] (fnScope s_line) := fnScope_by (by decide +kernel)
def spLine : Sp := fun vs H Q _ => ∃ (f c : Addr) (sg : List Nat) (m : Nat), vs = [.ref f, .str (S sg), .int m] ∧ FlowAt f c H ∧ 1 ≤ sg.length ∧ sg.length ≤ 3 ∧ m ≤ 100 ∧
  ∀ (l : List Nat) (H' : Hp), Ov sg l → l.length ≤ m → Fx f c H H' → Q (.str (S l)) H'
theorem ok_line (T : BT mg) (c_less : Cal P w K mg base 1 "_law_less" spLess []) (c_anyof : Cal P w K mg base 2 "_law_any_of" (spAny K) []) {g : Addr} {fd : FuncData} (F : Def K mg "_law_line" s_line g fd) (b : Binds K fd ["flow", "signs_here", "most"] []) : Cal P w K mg base 3 "_law_line" spLine [] := by
  refine cal0 F b .nil sc_line (fun vs H Q E h => ?_) (fun cdv A outer s H vs Q E hr h => ?_)
  · obtain ⟨f, c, sg, m, rfl, _⟩ := h; rfl
  · obtain ⟨f, c, sg, m, rfl, hf, s1, s3, m100, k⟩ := h
    refine ⟨_, (pss_one (ps_ret (pe_join pe_str (pe_lc (own := [("turn", 3)]) rfl sc_line.nd (pi_range1 (by rfl) T.m_range (pa_cons (pe_c c_less hr (by first | decide | omega) (by rfl) (pa_cons (pv 0) (pa_cons (pe_op op_add (pv 2) pe_int) pa_nil))) pa_nil)) (blkOk_by (N := n_line) (sc := fnScope s_line) (by decide +kernel)) (fun _ _ _ _ _ => (pg_name (i := 3) sc_line.nd rfl (.inl rfl))) (fun _ _ _ _ _ => pts_nil) (fun _ _ _ _ _ => (pe_c c_anyof hr (by first | decide | omega) (by rfl) (pa_cons (pv 0) (pa_cons (pv 1) pa_nil)))))))
      ), ?_⟩
    refine ⟨⟨_, rfl⟩, ?_⟩
    walk_at "s"
    refine ⟨f, c, (m : Int) + 1, rfl, hf, by omega, by omega, fun d H1 d0 d1 hB => ?_⟩
    refine ⟨_, rfl, by omega, by omega, fun D hD => ?_⟩
    refine lc_keep (keep_fx hB.2) (walk_range (lo := 0) (n := d.toNat)) hD (by show d.toNat < sizeLine; exact small1000 (by omega)) (fun _ y => ∃ c ∈ sg, y = .str (S [c])) (fun _ _ => trivial) (fun i x H2 H3 R hi r hy hR => ?_) (fun ys H2 hl hg r hDs => ?_)
    · obtain ⟨rfl, rfl⟩ := hy
      refine ⟨rfl, ?_⟩
      refine ⟨_, rfl, _, rfl, ?_⟩
      refine ⟨f, c, .str (S sg), _, rfl, r.2, (fun _ e => nomatch e), .inr ⟨sg, rfl, le1000 (by omega), rfl⟩, by rw [List.length_map]; omega, by rw [List.length_map]; omega, fun v H4 hv hB4 => ?_⟩
      refine hR v H4 hB4 ?_
      obtain ⟨c, hc, rfl⟩ := List.mem_map.mp hv
      exact ⟨c, hc, rfl⟩
    · obtain ⟨l, hl2, ho, rfl⟩ := singles_join ys _ sg hl hg
      refine ⟨_, D, (l.map fun c => S [c]), rfl, rfl, .inl (SqL.of (by rw [List.map_map]; exact hDs)), ?_, ?_⟩
      · rw [sums_singles, s_nil, S_len]; simp only [List.length_nil, Nat.mul_zero, Nat.add_zero]; exact le1000 (by omega)
      · show Q (.str (Txt.join (Str.ofString "") (l.map fun c => S [c]))) H2
        rw [s_nil, join_singles]
        exact k l _ ho (by omega) (hB.trans r)
theorem cut_inz (ns : List Int) (lo hi : Option Int) : ∃ ms : List Int, cutV (inz ns) lo hi = inz ms ∧ ms.length ≤ ns.length := by
  unfold cutV
  rw [inz_len]
  refine ⟨(ns.drop (HT.sIx ns.length 0 lo)).take (HT.sIx ns.length ns.length hi - HT.sIx ns.length 0 lo), ?_, ?_⟩
  · unfold inz; rw [List.map_take, List.map_drop]
  · rw [List.length_take, List.length_drop]; omega
abbrev s_flow : Stmt := top 39
abbrev n_flow : List Str := ["script", "base", "cells", "stirred", "cell"]
theorem sc_flow : FnScope n_flow ["script", "base"] (fnScope s_flow) := fnScope_by (by decide +kernel)
def spFlow : PySem.W.Frag → Sp := fun K vs H Q _ => ∃ (a : Addr) (k : Nat) (ns : List Int), vs = [.ref a, .int k] ∧ SqL K H a (ns.map V.int) ∧ ns.length ≤ 63 ∧ k ≤ 10 ∧
  ∀ (f c : Addr) (H' : Hp), Same H H' → H f = none → H c = none → FlowAt f c H' → Q (.ref f) H'
theorem ok_flow (T : BT mg) {g : Addr} {fd : FuncData} (F : Def K mg "_law_flow" s_flow g fd) (b : Binds K fd ["script", "base"] []) : Cal P w K mg base 1 "_law_flow" (spFlow K) [] := by
  refine cal0 F b .nil sc_flow (fun vs H Q E h => ?_) (fun cdv A outer s H vs Q E hr h => ?_)
  · obtain ⟨a, k, ns, rfl, _⟩ := h; rfl
  · obtain ⟨a, k, ns, rfl, ha, hl, hk, kk⟩ := h
    refine ⟨_, (pss_cons (ps_par (i := 2) (j := 3) rfl sc_flow.nd rfl rfl (by decide) rfl rfl (pa_cons (pe_lc (own := [("cell", 4)]) rfl sc_flow.nd (pi_list (pe_slice sl_list (pv 0) (po_some (pv 1)) (po_some pe_int))) (blkOk_by (N := n_flow) (sc := fnScope s_flow) (by decide +kernel)) (fun _ _ _ _ _ => (pg_name (i := 4) sc_flow.nd rfl (.inl rfl))) (fun _ _ _ _ _ => pts_nil) (fun _ _ _ _ _ => (pe_callB call_abs (by rfl) T.m_abs PyProof.Rows.boot_abs (pa_cons (pe_callTy call_int1 (by rfl) T.m_int PyProof.Rows.boot_int (pa_cons (pv 4) pa_nil)) pa_nil)))) (pa_cons (pe_op op_add pe_int (pe_op op_mul pe_int (pv 1))) pa_nil)) rfl)
      (pss_cons (ps_for PassesOwn.never rfl (pi_list (pv 2)) (pg_name (i := 4) sc_flow.nd rfl (.inl rfl)) 
        (pss_one (ps_set (i := 3) sc_flow.nd rfl (.inl rfl) (pe_op op_mod (pe_callTy call_int1 (by rfl) T.m_int PyProof.Rows.boot_int (pa_cons (pe_op op_add (pe_op op_add (pe_op op_mul (pv 3) pe_int) (pe_op op_mod (pe_callTy call_int1 (by rfl) T.m_int PyProof.Rows.boot_int (pa_cons (pv 4) pa_nil)) pe_int)) pe_int) pa_nil)) pe_int))
        ))
      (pss_one (ps_ret (pe_lst (pa_cons (pe_revLX K (pe_lc (own := [("cell", 4)]) rfl sc_flow.nd (pi_list (pv 2)) (blkOk_by (N := n_flow) (sc := fnScope s_flow) (by decide +kernel)) (fun _ _ _ _ _ => (pg_name (i := 4) sc_flow.nd rfl (.inl rfl))) (fun _ _ _ _ _ => pts_one (pt_cmpR op_ge (pv 4) (pe_op op_pow pe_int pe_int) (nomark _))) (fun _ _ _ _ _ => (pv 4))) (pe_op op_sub pe_int pe_int)) (pa_cons (pv 3) (pa_cons pe_int pa_nil)))))
      ))), ?_⟩
    refine ⟨_, rfl, _, rfl, ⟨(k : Int), rfl, ?_⟩⟩
    obtain ⟨ms, ecut, hml⟩ := cut_inz ns (some (k : Int)) (some 58)
    refine ⟨58, rfl, a, _, rfl, ha, fun q hq => ?_⟩
    rw [show cutV (ns.map V.int) (some (k : Int)) (some 58) = inz ms from ecut]
    refine ⟨q, rfl, ⟨_, SqL.of upd_same⟩, fun D hD => lc_keep keep_same (walk_list (K := K) (a := q) (xs := inz ms)) hD (by rw [inz_len]; exact small1000 (by omega)) (fun _ y => ∃ z : Int, y = .int z) (fun H r => SqL.of (r _ _ upd_same)) (fun i x H3 H4 R hi r hy hR => ?_) (fun ys H3 hly hg r hDs => ?_)⟩
    · obtain ⟨rfl, e⟩ := hy
      obtain ⟨z, hz, rfl⟩ := inz_get e
      refine ⟨rfl, ?_⟩
      walk_at "s"
      exact hR _ _ (Same.refl _) ⟨_, rfl⟩
    obtain ⟨cs, rfl⟩ := inz_of hg
    have hcl : cs.length ≤ 63 := by rw [inz_len, inz_len] at hly; omega
    have r0 : Same H H3 := (sm_new hq).trans r
    have hD0 : H D = none := by
      cases z : H D with
      | none => rfl
      | some o => rw [sm_new hq _ _ z] at hD; cases hD
    walk_at "s"
    refine ⟨_, _, rfl, ?_⟩
    refine ⟨_, rfl, D, rfl, ⟨_, SqL.of hDs⟩, for_it (walk_list (K := K) (a := D) (xs := inz cs)) (fun i σ H' => H' = H3 ∧ ∃ (s : Int) (s4 : Option V), σ = [some (.ref a), some (.int k), some (.ref D), some (.int s), s4])
      ⟨rfl, _, _, rfl⟩ (fun _ _ _ _ ⟨e, _⟩ => by rw [e]; exact SqL.of hDs) ?_ ?_⟩
    · rintro i x σ H4 H4' hi ⟨rfl, s, s4, rfl⟩ ⟨rfl, hx⟩
      obtain ⟨z, hz, rfl⟩ := inz_get hx
      walk_at "s"
      exact ⟨rfl, _, _, rfl⟩
    · rintro σ H4 ⟨rfl, s, s4, rfl⟩
      refine ⟨_, rfl, D, rfl, ⟨_, SqL.of hDs⟩, fun D2 hD2 => ?_⟩
      refine lc_keepF keep_same (walk_list (K := K) (a := D) (xs := inz cs)) hD2 (by rw [inz_len]; exact small1000 (by omega)) (fun i => decide ((10 : Int) ^ (18 : Int).toNat ≤ cs.getD i 0)) (fun _ y _ => ∃ z : Int, y = .int z) (fun H r => SqL.of (r _ _ hDs)) (fun _ _ _ _ _ _ h => h) (fun _ _ _ _ _ _ _ h => h)
        (fun j x H5 H6 acc N R hj r5 hDa hy hR hN => ?_) (fun ys H5 hly2 hg2 r5 hDs2 => ?_)
      · obtain ⟨rfl, e⟩ := hy
        obtain ⟨z, hz, rfl⟩ := inz_get e
        have hzd : cs.getD j 0 = z := by rw [List.getD_eq_getElem?_getD, hz]; rfl
        refine ⟨rfl, ?_⟩
        walk_at "s"
        cases hq : decide ((10 : Int) ^ (18 : Int).toNat ≤ z) with
        | true => exact iteB rfl ⟨_, rfl, hR (by show decide ((10 : Int) ^ (18 : Int).toNat ≤ cs.getD j 0) = true; rw [hzd]; exact hq) _ _ (Same.refl _) ⟨_, rfl⟩⟩
        | false => exact iteN rfl (hN (by show decide ((10 : Int) ^ (18 : Int).toNat ≤ cs.getD j 0) = false; rw [hzd]; exact hq) _ (Same.refl _))
      · obtain ⟨ds, rfl⟩ := inz_of (ys := ys) fun j y e => by
          have hj : j < ys.length := (List.getElem?_eq_some_iff.mp e).1
          exact hg2 j _ y (List.getElem?_eq_getElem (by omega)) e
        have hdl : ds.length ≤ 63 := by
          rw [inz_len] at hly2
          have := takenN_le (ok := fun i => decide ((10 : Int) ^ (18 : Int).toNat ≤ cs.getD i 0)) (n := (inz cs).length)
          rw [inz_len] at this hly2
          omega
        refine ⟨0, 1, rfl, rfl, ?_⟩
        refine ⟨_, rfl, rfl, D2, _, rfl, SqL.of hDs2, fun p hp => ?_⟩
        have er : (inz ds).reverse = inz ds.reverse := by unfold inz; rw [List.map_reverse]
        rw [er]
        refine ⟨_, rfl, ?_⟩
        refine ⟨by show 3 ≤ sizeLine; decide, fun f hf => ?_⟩
        have hpf : f ≠ p := fun e => by rw [e, upd_same] at hf; cases hf
        have hf5 : H5 f = none := by rw [upd_ne hpf] at hf; exact hf
        have r6 := r0.trans r5
        have fr : ∀ x, H5 x = none → H x = none := fun x hx => by
          cases z : H x with
          | none => rfl
          | some o => rw [r6 _ _ z] at hx; cases hx
        refine kk f p _ (sm_put (sm_put r6 (fr p hp)) (fr f hf5)) (fr f hf5) (fr p hp) ⟨hpf, ⟨_, _, upd_same⟩, ds.reverse, by rw [upd_ne hpf.symm, upd_same], by rw [List.length_reverse]; exact hdl⟩
end
end Toy
set_option maxHeartbeats 1000000
namespace Toy
open PySem L2 C8 SX LX
local macro_rules | `(tactic| walk_at "c") => `(tactic| refine And.intro (by first | (show (0 : Int) < _; omega) | exact Or.inr ⟨by decide, by decide⟩ | exact Or.inl ⟨by decide, by decide⟩ | (exact ⟨by omega, by omega⟩)) ?_)
local macro_rules | `(tactic| walk_at "s1") => `(tactic| first | refine ⟨_, rfl, ?_⟩ | refine ⟨_, _, rfl, rfl, ?_⟩ | refine .inl ⟨_, rfl, ?_⟩ | walk_at "c")
local macro_rules | `(tactic| walk_at "s") => `(tactic| repeat (walk_at "s1"))
section
variable {P : Program} {w : World} {K : PySem.W.Frag} {mg : Str → Option Value} {base : Heap}
def names5 : List (List Nat) := [[110, 111], [121, 101, 115], [109, 97], [111, 100, 100], [102, 97, 114]]
theorem s_no : (Str.ofString "no") = S [110, 111] := by decide +kernel
theorem s_yes : (Str.ofString "yes") = S [121, 101, 115] := by decide +kernel
theorem s_ma : (Str.ofString "ma") = S [109, 97] := by decide +kernel
theorem s_odd : (Str.ofString "odd") = S [111, 100, 100] := by decide +kernel
theorem s_far : (Str.ofString "far") = S [102, 97, 114] := by decide +kernel
def ky (m : List Nat) (c : Nat) : List Key := [.inr (S m), .inr (S [c])]
def Dn (ms : List (List Nat)) (sg : List Nat) (i j : Nat) (kvs : List (List Key × V)) : Prop :=
  ∀ (a b : Nat) (m : List Nat) (c : Nat), ms[a]? = some m → sg[b]? = some c → (a < i ∨ (a = i ∧ b < j)) → ∃ x ∈ ms, valV kvs (ky m c) = some (.str (S x))
def Full (ms : List (List Nat)) (sg : List Nat) (kvs : List (List Key × V)) : Prop := ∀ m ∈ ms, ∀ c ∈ sg, ∃ x ∈ ms, valV kvs (ky m c) = some (.str (S x))
theorem at_first {α : Type} {xs : List α} {c : α} (h : xs[0]? = some c) : atI xs 0 = some c := by
  have h0 : 0 < xs.length := (List.getElem?_eq_some_iff.mp h).1
  unfold atI ixN
  rw [if_pos (by decide), if_pos (by omega)]
  exact h
theorem ky_inj {m m' : List Nat} {c c' : Nat} (h : ky m c = ky m' c') : m = m' ∧ c = c' := by
  unfold ky at h
  simp only [List.cons.injEq, Sum.inr.injEq, and_true] at h
  have e1 := S_inj h.1
  have e2 := S_inj h.2
  exact ⟨e1, by simpa using e2⟩
theorem Dn.put {ms : List (List Nat)} {sg : List Nat} {i j : Nat} {kvs : List (List Key × V)} (h : Dn ms sg i j kvs) {m x : List Nat} {c : Nat} (hm : ms[i]? = some m) (hc : sg[j]? = some c) (hx : x ∈ ms) : Dn ms sg i (j + 1) (putK kvs (ky m c) (.str (S x))) := by
  intro a b m' c' ha hb hab
  rw [valV_put]
  by_cases e : ky m' c' = ky m c
  · exact ⟨x, hx, by rw [if_pos e]⟩
  · rw [if_neg e]
    refine h a b m' c' ha hb ?_
    rcases hab with h1 | ⟨rfl, h2⟩
    · exact .inl h1
    · refine .inr ⟨rfl, ?_⟩
      rcases Nat.lt_or_ge b j with h3 | h3
      · exact h3
      · exfalso
        have : b = j := by omega
        subst this
        rw [ha] at hm; rw [hb] at hc
        cases hm; cases hc
        exact e rfl
theorem Dn.row {ms : List (List Nat)} {sg : List Nat} {i : Nat} {kvs : List (List Key × V)} (h : Dn ms sg i sg.length kvs) : Dn ms sg (i + 1) 0 kvs := by
  intro a b m c ha hb hab
  refine h a b m c ha hb ?_
  have hb' := (List.getElem?_eq_some_iff.mp hb).1
  omega
theorem Dn.full {ms : List (List Nat)} {sg : List Nat} {kvs : List (List Key × V)} (h : Dn ms sg ms.length 0 kvs) : Full ms sg kvs := by
  intro m hm c hc
  obtain ⟨a, ha⟩ := List.mem_iff_getElem?.mp hm
  obtain ⟨b, hb⟩ := List.mem_iff_getElem?.mp hc
  exact h a b m c ha hb (.inl (List.getElem?_eq_some_iff.mp ha).1)
theorem Full.put {ms : List (List Nat)} {sg : List Nat} {kvs : List (List Key × V)} (h : Full ms sg kvs) {m x : List Nat} {c : Nat} (hx : x ∈ ms) : Full ms sg (putK kvs (ky m c) (.str (S x))) := by
  intro m' hm c' hc
  rw [valV_put]
  by_cases e : ky m' c' = ky m c
  · exact ⟨x, hx, by rw [if_pos e]⟩
  · rw [if_neg e]; exact h m' hm c' hc
abbrev s_draft : Stmt := top 44
abbrev n_draft : List Str := ["flow", "signs_here", "most", "marks_here", "goes", "form", "mark", "sign", "turned", "other"]
theorem sc_draft : FnScope n_draft ["flow", "signs_here", "most"] (fnScope s_draft) := fnScope_by (by decide +kernel)
structure Draft (K : PySem.W.Frag) (H : Hp) (q pm pd : Addr) (ms : List (List Nat)) (b : List Nat) (sg : List Nat) (kvs : List (List Key × V)) : Prop where
  top : H q = some (.tup [.ref pm, .str (S b), .ref pd])
  marks : H pm = some (.tup (txs ms))
  goes : H pd = some (.dT kvs)
  full : Full ms sg kvs
  few : kvs.length ≤ 30
  first : b ∈ ms
  nd : ms.Nodup
  nm : ∀ m ∈ ms, m ∈ names5
  pos : 1 ≤ ms.length
def spDraft : PySem.W.Frag → Sp := fun K vs H Q _ => ∃ (f c : Addr) (sg : List Nat) (m : Nat), vs = [.ref f, .str (S sg), .int m] ∧ FlowAt f c H ∧ 1 ≤ sg.length ∧ sg.length ≤ 3 ∧ 1 ≤ m ∧ m ≤ 5 ∧
  ∀ (q pm pd : Addr) (ms : List (List Nat)) (b : List Nat) (kvs : List (List Key × V)) (H' : Hp), Fx f c H H' → H q = none → H pm = none → H pd = none → Draft K H' q pm pd ms b sg kvs → ms.length ≤ m → Q (.ref q) H'
theorem ok_draft (T : BT mg) (c_less : Cal P w K mg base 1 "_law_less" spLess []) (c_anyof : Cal P w K mg base 2 "_law_any_of" (spAny K) []) (c_shaken : Cal P w K mg base 2 "_law_shaken" (spShaken K) []) {g : Addr} {fd : FuncData} (F : Def K mg "_law_draft" s_draft g fd) (b : Binds K fd ["flow", "signs_here", "most"] []) : Cal P w K mg base 3 "_law_draft" (spDraft K) [] := by
  refine cal0 F b .nil sc_draft (fun vs H Q E h => ?_) (fun cdv A outer s H vs Q E hr h => ?_)
  · obtain ⟨f, c, sg, m, rfl, _⟩ := h; rfl
  · obtain ⟨f, c, sg, m, rfl, hf, s1, s3, m1, m5, k⟩ := h
    refine ⟨_, (pss_cons (ps_set (i := 3) sc_draft.nd rfl (.inl rfl) (pe_slice sl_list (pe_c c_shaken hr (by first | decide | omega) (by rfl) (pa_cons (pv 0) (pa_cons (pe_lst (pa_cons pe_str (pa_cons pe_str (pa_cons pe_str (pa_cons pe_str (pa_cons pe_str pa_nil)))))) pa_nil))) po_none (po_some (pe_op op_add pe_int (pe_c c_less hr (by first | decide | omega) (by rfl) (pa_cons (pv 0) (pa_cons (pv 2) pa_nil)))))))
      (pss_cons (ps_par (i := 4) (j := 5) rfl sc_draft.nd rfl rfl (by decide) rfl rfl (pa_cons pe_dnewT (pa_cons (pe_c c_less hr (by first | decide | omega) (by rfl) (pa_cons (pv 0) (pa_cons pe_int pa_nil))) pa_nil)) rfl)
      (pss_cons (ps_for PassesOwn.never rfl (pi_list (pv 3)) (pg_name (i := 6) sc_draft.nd rfl (.inl rfl)) 
        (pss_one (ps_for PassesOwn.never rfl (pi_str (pv 1)) (pg_name (i := 7) sc_draft.nd rfl (.inl rfl)) 
          (pss_one (ps_dput (hu_of hr) (pv 4) (pe_tup (pa_cons (pv 6) (pa_cons (pv 7) pa_nil))) (pe_c c_anyof hr (by first | decide | omega) (by rfl) (pa_cons (pv 0) (pa_cons (pv 3) pa_nil))) rfl)
          ))
        ))
      (pss_cons (ps_if (pt_cmpR op_eq (pv 5) pe_int (nomark _)) 
        (pss_cons (ps_set (i := 8) sc_draft.nd rfl (.inl rfl) (pe_c c_shaken hr (by first | decide | omega) (by rfl) (pa_cons (pv 0) (pa_cons (pv 3) pa_nil))))
        (pss_one (ps_for PassesOwn.never rfl (pi_zipX (by rfl) T.m_zip (pa_cons (pv 3) (pa_cons (pv 8) pa_nil))) (tupK K 2 (pgs_cons (pg_name (i := 6) sc_draft.nd rfl (.inl rfl)) (pgs_cons (pg_name (i := 9) sc_draft.nd rfl (.inl rfl)) pgs_nil))) 
          (pss_one (ps_dput (hu_of hr) (pv 4) (pe_tup (pa_cons (pv 6) (pa_cons (pe_ix ix_str (pv 1) pe_int (fun _ _ => rfl)) pa_nil))) (pv 9) rfl)
          ))
        ))
       pss_nil)
      (pss_one (ps_ret (pe_tup (pa_cons (pe_callTy (tupleK K) (by rfl) T.m_tuple PyProof.Rows.boot_tuple (pa_cons (pv 3) pa_nil)) (pa_cons (pe_c c_anyof hr (by first | decide | omega) (by rfl) (pa_cons (pv 0) (pa_cons (pv 3) pa_nil))) (pa_cons (pv 4) pa_nil)))))
      ))))), ?_⟩
    refine ⟨_, rfl, ?_⟩
    refine ⟨by decide, fun p hp => ?_⟩
    have hpn := flow_ne hf hp
    have hF1 : Fx f c H (upd H p (.lst [.str (Str.ofString "no"), .str (Str.ofString "yes"), .str (Str.ofString "ma"), .str (Str.ofString "odd"), .str (Str.ofString "far")])) := (Fx.refl hf).put hp hp
    refine ⟨f, c, p, names5, rfl, hF1.2, hpn, SqL.of (by rw [upd_same, s_no, s_yes, s_ma, s_odd, s_far]; rfl), by decide, fun ys p1 H1 hys hp1 hB1 hy1 => ?_⟩
    have hF2 := hF1.trans hB1
    have hlen5 : ys.length = 5 := hys.length_eq
    refine ⟨_, rfl, _, rfl, f, c, (m : Int), rfl, hF2.2, by omega, by omega, fun d H2 d0 d1 hB2 => ?_⟩
    refine ⟨1, d, rfl, rfl, ?_⟩
    refine ⟨_, rfl, ?_⟩
    have hp1n := flow_ne hF1.2 hp1
    have hy2 := hB2.1 _ _ hp1n.1 hp1n.2 hy1
    have hF3 := hF2.trans hB2
    refine ⟨p1, _, rfl, SqL.of hy2, fun pl hpl => ?_⟩
    have hplH := hF3.free hpl
    have hpln := flow_ne hf hplH
    have ecut : cutV (txs ys) none (some (1 + d)) = txs (ys.take (1 + d.toNat)) := by
      have : (1 + d : Int) = ((1 + d.toNat : Nat) : Int) := by omega
      rw [this]
      unfold cutV
      rw [HT.sIx_none, HT.sIx_nat, List.drop_zero, Nat.sub_zero, txs_len, Nat.min_eq_left (by omega)]
      unfold txs
      rw [← List.map_take]
    rw [ecut]
    have hms5 : ∀ z ∈ ys.take (1 + d.toNat), z ∈ names5 := fun z hz => hys.subset (List.mem_of_mem_take hz)
    have hnd : (ys.take (1 + d.toNat)).Nodup := (hys.nodup_iff.mpr (by decide)).sublist (List.take_sublist _ _)
    have hml : (ys.take (1 + d.toNat)).length = 1 + d.toNat := by rw [List.length_take]; omega
    generalize ys.take (1 + d.toNat) = ms at hms5 hnd hml
    have hF4 : Fx f c H (upd H2 pl (.lst (txs ms))) := fx_own hF3 hplH
    have hpl4 : (upd H2 pl (.lst (txs ms))) pl = some (.lst (txs ms)) := upd_same
    generalize upd H2 pl (.lst (txs ms)) = H4 at hF4 hpl4
    refine fun pd hpd => ?_
    have hpdH := hF4.free hpd
    have hpdn := flow_ne hf hpdH
    have hpdl : pd ≠ pl := (ne_of_none hpl4 hpd).symm
    have hF5 : Fx f c H (upd H4 pd (.dT [])) := fx_own hF4 hpdH
    have hpl5 : (upd H4 pd (.dT [])) pl = some (.lst (txs ms)) := by rw [upd_ne hpdl.symm]; exact hpl4
    have hpd5 : (upd H4 pd (.dT [])) pd = some (.dT []) := upd_same
    generalize upd H4 pd (.dT []) = H5 at hF5 hpl5 hpd5
    refine ⟨_, rfl, f, c, 4, rfl, hF5.2, by omega, by omega, fun fm H6 f0 f4 hB6 => ?_⟩
    refine ⟨_, _, rfl, ?_⟩
    have hF6 := hF5.trans hB6
    have hpl6 := hB6.1 _ _ hpln.1 hpln.2 hpl5
    have hpd6 := hB6.1 _ _ hpdn.1 hpdn.2 hpd5
    have hmle : ms.length ≤ 5 := by omega
    refine ⟨_, rfl, pl, rfl, ⟨_, SqL.of hpl6⟩, for_it (walk_list (K := K) (a := pl) (xs := txs ms)) (fun i σ H' => ∃ (kvs : List (List Key × V)) (s6 s7 : Option V), σ = [some (.ref f), some (.str (S sg)), some (.int m), some (.ref pl), some (.ref pd), some (.int fm), s6, s7, none, none] ∧
        Fx f c H H' ∧ H' pl = some (.lst (txs ms)) ∧ H' pd = some (.dT kvs) ∧ Dn ms sg i 0 kvs ∧ kvs.length ≤ 3 * i)
      ⟨[], _, _, rfl, hF6, hpl6, hpd6, fun a b m c _ _ h => by omega, Nat.zero_le _⟩ (fun _ _ _ _ ⟨_, _, _, _, _, e, _⟩ => SqL.of e) ?_ ?_⟩
    · rintro i x σ H7 H7' hi ⟨kvs, s6, s7, rfl, hF7, hpl7, hpd7, hdn, hkl⟩ ⟨rfl, hx⟩
      obtain ⟨mk, hmk, rfl⟩ := txs_get hx
      have hi5 : i < ms.length := (List.getElem?_eq_some_iff.mp hmk).1
      refine ⟨_, rfl, S sg, rfl, for_it walk_str (fun j σ H' => ∃ (kvs : List (List Key × V)) (s7 : Option V), σ = [some (.ref f), some (.str (S sg)), some (.int m), some (.ref pl), some (.ref pd), some (.int fm), some (.str (S mk)), s7, none, none] ∧
          Fx f c H H' ∧ H' pl = some (.lst (txs ms)) ∧ H' pd = some (.dT kvs) ∧ Dn ms sg i j kvs ∧ kvs.length ≤ 3 * i + j)
        ⟨kvs, _, rfl, hF7, hpl7, hpd7, hdn, hkl⟩ (fun _ _ _ _ _ => trivial) ?_ ?_⟩
      · rintro j x σ H8 H8' hj ⟨kvs, s7, rfl, hF8, hpl8, hpd8, hdn, hkl⟩ ⟨rfl, ch, hch, rfl⟩
        have hc' : sg[j]? = some ch := by simpa [S] using hch
        have hj3 : j < sg.length := (List.getElem?_eq_some_iff.mp hc').1
        refine ⟨_, rfl, _, rfl, f, c, .ref pl, txs ms, rfl, hF8.2, fun p e => by cases e; exact hpln, .inl ⟨pl, rfl, .inl (SqL.of hpl8)⟩, by rw [txs_len]; omega, by rw [txs_len]; omega, fun v H9 hv hB9 => ?_⟩
        obtain ⟨z, hz, rfl⟩ := List.mem_map.mp hv
        have hF9 := hF8.trans hB9
        have hpl9 := hB9.1 _ _ hpln.1 hpln.2 hpl8
        have hpd9 := hB9.1 _ _ hpdn.1 hpdn.2 hpd8
        refine ⟨_, rfl, _, rfl, _, rfl, ⟨by show 2 ≤ sizeLine; decide, fun t ht => ?_⟩⟩
        have htpl : pl ≠ t := ne_of_none hpl9 ht
        have htpd : pd ≠ t := ne_of_none hpd9 ht
        have hF10 := hF9.put (o := .tup [.str (S mk), .str (S [ch])]) ht (hF9.free ht)
        refine ⟨pd, _, rfl, DPut.t (k := ky mk ch) (by rw [upd_ne htpd]; exact hpd9) (by rw [upd_same]; rfl) (by show kvs.length < sizeLine; exact small1000 (by omega)), ?_⟩
        refine ⟨putK kvs (ky mk ch) (.str (S z)), _, rfl, fx_own hF10 hpdH, by rw [upd_ne hpdl.symm, upd_ne htpl]; exact hpl9, upd_same, hdn.put hmk hc' hz, ?_⟩
        have := length_putK kvs (ky mk ch) (.str (S z))
        omega
      · rintro σ H8 ⟨kvs, s7, rfl, hF8, hpl8, hpd8, hdn, hkl⟩
        have hdn' : Dn ms sg i sg.length kvs := hdn
        have hkl' : kvs.length ≤ 3 * i + sg.length := hkl
        exact ⟨kvs, _, _, rfl, hF8, hpl8, hpd8, hdn'.row, by omega⟩
    · rintro σ H7 ⟨kvs, s6, s7, rfl, hF7, hpl7, hpd7, hdn, hkl⟩
      have hfull : Full ms sg kvs := Dn.full (by rw [txs_len] at hdn; exact hdn)
      rw [txs_len] at hkl
      refine ⟨_, rfl, rfl, ?_⟩
      refine ⟨_, rfl, ?_⟩
      refine ite2 (fun _ => ?_) (fun _ => ?_)
      · refine ⟨_, rfl, _, rfl, f, c, pl, ms, rfl, hF7.2, hpln, SqL.of hpl7, by omega, fun ts pt H7' hperm hpt hB7 hpt7 => ?_⟩
        have hF7' := hF7.trans hB7
        have hpl7' := hB7.1 _ _ hpln.1 hpln.2 hpl7
        have hpd7' := hB7.1 _ _ hpdn.1 hpdn.2 hpd7
        have htl : ts.length = ms.length := hperm.length_eq
        refine ⟨_, rfl, _, rfl, .ref pl, .ref pt, .lst pl, .lst pt, rfl, rfl, rfl, ⟨_, SqL.of hpl7'⟩, ⟨_, SqL.of hpt7⟩, ?_⟩
        refine for_it (walk_zipX (K := K) (S1 := .lst pl) (S2 := .lst pt) (xs := txs ms) (ys := txs ts)) (fun i σ H' => ∃ (kvs : List (List Key × V)) (s6 s9 : Option V), σ = [some (.ref f), some (.str (S sg)), some (.int m), some (.ref pl), some (.ref pd), some (.int fm), s6, s7, some (.ref pt), s9] ∧
            Fx f c H H' ∧ H' pl = some (.lst (txs ms)) ∧ H' pt = some (.lst (txs ts)) ∧ H' pd = some (.dT kvs) ∧ Full ms sg kvs ∧ kvs.length ≤ 15 + i)
          ⟨kvs, _, _, rfl, hF7', hpl7', hpt7, hpd7', hfull, by omega⟩ (fun _ _ _ _ ⟨_, _, _, _, _, e1, e2, _⟩ => ⟨SqL.of e1, SqL.of e2⟩) ?_ ?_
        · rintro i x σ H8 H8' hi ⟨kvs, s6, s9, rfl, hF8, hpl8, hpt8, hpd8, hfull, hkl⟩ ⟨t, x1, x2, rfl, ht, rfl, e1, e2⟩
          obtain ⟨mm, hmm, rfl⟩ := txs_get e1
          obtain ⟨oo, hoo, rfl⟩ := txs_get e2
          obtain ⟨c0, hc0⟩ : ∃ c0, sg[0]? = some c0 := ⟨_, List.getElem?_eq_getElem (by omega)⟩
          have htpl : pl ≠ t := ne_of_none hpl8 ht
          have htpt : pt ≠ t := ne_of_none hpt8 ht
          have htpd : pd ≠ t := ne_of_none hpd8 ht
          have hF9 := hF8.put (o := .tup [.str (S mm), .str (S oo)]) ht (hF8.free ht)
          have ht9 : (upd H8 t (.tup [.str (S mm), .str (S oo)])) t = some (.tup [.str (S mm), .str (S oo)]) := upd_same
          have hpl9 : (upd H8 t (.tup [.str (S mm), .str (S oo)])) pl = some (.lst (txs ms)) := by rw [upd_ne htpl]; exact hpl8
          have hpt9 : (upd H8 t (.tup [.str (S mm), .str (S oo)])) pt = some (.lst (txs ts)) := by rw [upd_ne htpt]; exact hpt8
          have hpd9 : (upd H8 t (.tup [.str (S mm), .str (S oo)])) pd = some (.dT kvs) := by rw [upd_ne htpd]; exact hpd8
          generalize upd H8 t (.tup [.str (S mm), .str (S oo)]) = H9 at hF9 ht9 hpl9 hpt9 hpd9 ⊢
          refine ⟨t, _, rfl, .inl (.inl ht9), rfl, _, _, rfl, _, _, rfl, rfl, ?_⟩
          refine ⟨_, rfl, _, rfl, _, rfl, _, rfl, S sg, 0, c0, rfl, rfl, by rw [S_len]; exact le1000 (by omega), at_first (show (S sg).cps.toList[0]? = some c0 from hc0), ?_⟩
          refine ⟨by show 2 ≤ sizeLine; decide, fun u hu => ?_⟩
          have hupl : pl ≠ u := ne_of_none hpl9 hu
          have hupt : pt ≠ u := ne_of_none hpt9 hu
          have hupd : pd ≠ u := ne_of_none hpd9 hu
          have hF10 := hF9.put (o := .tup [.str (S mm), .str (S [c0])]) hu (hF9.free hu)
          have hptn : pt ≠ pd := fun e => by rw [e, hpd9] at hpt9; cases hpt9
          refine ⟨pd, _, rfl, DPut.t (k := ky mm c0) (by rw [upd_ne hupd]; exact hpd9) (by rw [upd_same]; rfl) (by show kvs.length < sizeLine; exact small1000 (by rw [txs_len] at hi; omega)), ?_⟩
          refine ⟨putK kvs (ky mm c0) (.str (S oo)), _, _, rfl, fx_own hF10 hpdH, by rw [upd_ne hpdl.symm, upd_ne hupl]; exact hpl9, by rw [upd_ne hptn, upd_ne hupt]; exact hpt9, upd_same, hfull.put (hperm.subset (List.mem_of_getElem? hoo)), ?_⟩
          have := length_putK kvs (ky mm c0) (.str (S oo))
          omega
        · rintro σ H8 ⟨kvs, s6, s9, rfl, hF8, hpl8, hpt8, hpd8, hfull, hkl⟩
          have hi5 : min (txs ms).length (txs ts).length ≤ 5 := by rw [txs_len, txs_len]; omega
          refine ⟨_, rfl, pl, _, rfl, .inl ⟨SqL.of hpl8, fun pm hpm => ?_⟩⟩
          have hpmH := hF8.free hpm
          have hpmn := flow_ne hf hpmH
          have hmpd : pd ≠ pm := ne_of_none hpd8 hpm
          have hmpl : pl ≠ pm := ne_of_none hpl8 hpm
          have hF9 : Fx f c H (upd H8 pm (.tup (txs ms))) := fx_own hF8 hpmH
          have hpm9 : (upd H8 pm (.tup (txs ms))) pm = some (.tup (txs ms)) := upd_same
          have hpd9 : (upd H8 pm (.tup (txs ms))) pd = some (.dT kvs) := by rw [upd_ne hmpd]; exact hpd8
          have hpl9 : (upd H8 pm (.tup (txs ms))) pl = some (.lst (txs ms)) := by rw [upd_ne hmpl]; exact hpl8
          generalize upd H8 pm (.tup (txs ms)) = H9 at hF9 hpm9 hpd9 hpl9
          refine ⟨_, rfl, _, rfl, f, c, .ref pl, txs ms, rfl, hF9.2, fun p e => by cases e; exact hpln, .inl ⟨pl, rfl, .inl (SqL.of hpl9)⟩, by rw [txs_len]; omega, by rw [txs_len]; omega, fun v H10 hv hB10 => ?_⟩
          obtain ⟨z, hz, rfl⟩ := List.mem_map.mp hv
          refine ⟨_, rfl, ?_⟩
          refine ⟨by show 3 ≤ sizeLine; decide, fun q hq => ?_⟩
          have hF10 := hF9.trans hB10
          have hqH := hF10.free hq
          have hqn := flow_ne hf hqH
          have hpm10 := hB10.1 _ _ hpmn.1 hpmn.2 hpm9
          have hpd10 := hB10.1 _ _ hpdn.1 hpdn.2 hpd9
          exact k q pm pd ms z kvs _ (fx_own hF10 hqH) hqH hpmH hpdH ⟨upd_same, by rw [upd_ne (ne_of_none hpm10 hq)]; exact hpm10, by rw [upd_ne (ne_of_none hpd10 hq)]; exact hpd10, hfull, by omega, hz, hnd, hms5, by omega⟩ (by omega)
      · refine nxt ?_
        dsimp only
        have hF8 := hF7
        have hpl8 := hpl7
        have hpd8 := hpd7
        clear hF7 hpl7 hpd7
        generalize H7 = H8 at hF8 hpl8 hpd8
        refine ⟨_, rfl, pl, _, rfl, .inl ⟨SqL.of hpl8, fun pm hpm => ?_⟩⟩
        have hpmH := hF8.free hpm
        have hpmn := flow_ne hf hpmH
        have hmpd : pd ≠ pm := ne_of_none hpd8 hpm
        have hmpl : pl ≠ pm := ne_of_none hpl8 hpm
        have hF9 : Fx f c H (upd H8 pm (.tup (txs ms))) := fx_own hF8 hpmH
        have hpm9 : (upd H8 pm (.tup (txs ms))) pm = some (.tup (txs ms)) := upd_same
        have hpd9 : (upd H8 pm (.tup (txs ms))) pd = some (.dT kvs) := by rw [upd_ne hmpd]; exact hpd8
        have hpl9 : (upd H8 pm (.tup (txs ms))) pl = some (.lst (txs ms)) := by rw [upd_ne hmpl]; exact hpl8
        generalize upd H8 pm (.tup (txs ms)) = H9 at hF9 hpm9 hpd9 hpl9
        refine ⟨_, rfl, _, rfl, f, c, .ref pl, txs ms, rfl, hF9.2, fun p e => by cases e; exact hpln, .inl ⟨pl, rfl, .inl (SqL.of hpl9)⟩, by rw [txs_len]; omega, by rw [txs_len]; omega, fun v H10 hv hB10 => ?_⟩
        obtain ⟨z, hz, rfl⟩ := List.mem_map.mp hv
        refine ⟨_, rfl, ?_⟩
        refine ⟨by show 3 ≤ sizeLine; decide, fun q hq => ?_⟩
        have hF10 := hF9.trans hB10
        have hqH := hF10.free hq
        have hqn := flow_ne hf hqH
        have hpm10 := hB10.1 _ _ hpmn.1 hpmn.2 hpm9
        have hpd10 := hB10.1 _ _ hpdn.1 hpdn.2 hpd9
        exact k q pm pd ms z kvs _ (fx_own hF10 hqH) hqH hpmH hpdH ⟨upd_same, by rw [upd_ne (ne_of_none hpm10 hq)]; exact hpm10, by rw [upd_ne (ne_of_none hpd10 hq)]; exact hpd10, hfull, by omega, hz, hnd, hms5, by omega⟩ (by omega)
end
end Toy
set_option maxHeartbeats 1000000
namespace Toy
open PySem L2 C8 SX LX
def leK (ms : List (List Nat)) (ad : List Nat → Addr) : List (Key × V) := ms.map fun m => (tk m, .ref (ad m))
def laK (sg : List Nat) (t : Nat → List Nat) : List (Key × V) := sg.map fun c => (tk [c], .str (S (t c)))
theorem ne_keys {x y : Str} (h : ¬ x = y) : ¬ (Sum.inr x : Key) = Sum.inr y := fun e => h (Sum.inr.inj e)
def ledTo (tg : List Nat → Nat → List Nat) (m : List Nat) (row : List Nat) : List Nat := row.foldl tg m
theorem led_in {sg : List Nat} {ms : List (List Nat)} {tg : List Nat → Nat → List Nat} (htg : ∀ m ∈ ms, ∀ c ∈ sg, tg m c ∈ ms) : ∀ {row : List Nat} {m : List Nat}, Ov sg row → m ∈ ms → ledTo tg m row ∈ ms
  | [], _, _, h => h
  | c :: row, m, ho, h => led_in htg (row := row) (fun d hd => ho d (List.mem_cons_of_mem _ hd)) (htg m h c (ho c List.mem_cons_self))
theorem all_true : ∀ {ys : List V}, (∀ (j : Nat) y, ys[j]? = some y → y = .bl true) → ys = (List.replicate ys.length true).map V.bl
  | [], _ => rfl
  | y :: ys, h => by
    rw [List.length_cons, List.replicate_succ, List.map_cons, ← all_true (ys := ys) fun j z e => h (j + 1) z e, h 0 y rfl]
theorem rep_all (n : Nat) : (List.replicate n true).all id = true := by simp
theorem cut_any (ys : List V) (k : Nat) : cutV ys none (some (k : Int)) = ys.take k := by
  unfold cutV
  rw [HT.sIx_none, HT.sIx_nat, List.drop_zero, Nat.sub_zero]
  rcases Nat.le_total k ys.length with h | h
  · rw [Nat.min_eq_left h]
  · rw [Nat.min_eq_right h, List.take_length, List.take_of_length_le h]
theorem int_at {ns : List Int} {i : Nat} (h : i < ns.length) : ∃ z : Int, (ns.map V.int)[i]? = some (.int z) := ⟨ns[i], by rw [List.getElem?_map, List.getElem?_eq_getElem h]; rfl⟩
end Toy
set_option maxHeartbeats 2000000
namespace Toy
open PySem L2 C8 SX LX
local macro_rules | `(tactic| walk_at "c") => `(tactic| refine And.intro (by first | (show (0 : Int) < _; omega) | exact Or.inr ⟨by decide, by decide⟩ | exact Or.inl ⟨by decide, by decide⟩ | (exact ⟨by omega, by omega⟩)) ?_)
local macro_rules | `(tactic| walk_at "s1") => `(tactic| first | refine ⟨_, rfl, ?_⟩ | refine ⟨_, _, rfl, rfl, ?_⟩ | refine .inl ⟨_, rfl, ?_⟩ | walk_at "c")
local macro_rules | `(tactic| walk_at "ix") => `(tactic| refine ⟨_, _, _, _, rfl, rfl, SqL.of (by first | assumption | exact upd_same), rfl, ?_⟩)
local macro_rules | `(tactic| walk_at "s") => `(tactic| repeat (walk_at "s1"))
theorem ov_az {l : List Nat} : Ov az l ↔ ∀ c ∈ l, 97 ≤ c ∧ c ≤ 122 := ⟨fun h c hc => az_mem.mp (h c hc), fun h c hc => az_mem.mpr (h c hc)⟩
abbrev s_isseq : Stmt := top 11
abbrev n_isseq : List Str := ["value"]
theorem sc_isseq : FnScope n_isseq ["value"] (fnScope s_isseq) := fnScope_by (by decide +kernel)
abbrev s_isrow : Stmt := top 15
abbrev n_isrow : List Str := ["value", "signs"]
theorem sc_isrow : FnScope n_isrow ["value", "signs"] (fnScope s_isrow) := fnScope_by (by decide +kernel)
abbrev s_isletters : Stmt := top 13
abbrev n_isletters : List Str := ["value"]
theorem sc_isletters : FnScope n_isletters ["value"] (fnScope s_isletters) := fnScope_by (by decide +kernel)
abbrev s_issigns : Stmt := top 14
abbrev n_issigns : List Str := ["value", "one", "other"]
theorem sc_issigns : FnScope n_issigns ["value"] (fnScope s_issigns) := fnScope_by (by decide +kernel)
theorem sg_asc {sg : List Nat} (h : Sg sg) (i c d : Nat) (e1 : sg[i]? = some c) (e2 : sg[i + 1]? = some d) : c < d := by
  obtain ⟨a1, a2⟩ := List.getElem?_eq_some_iff.mp e1
  obtain ⟨b1, b2⟩ := List.getElem?_eq_some_iff.mp e2
  have := List.pairwise_iff_getElem.mp h.1 i (i + 1) a1 b1 (Nat.lt_succ_self i)
  rw [a2, b2] at this; exact this
instance (sg l : List Nat) : Decidable (Ov sg l) := by unfold Ov; infer_instance
inductive Kv (K : PySem.W.Frag) (H : Hp) : V → Option (List Nat) → Prop
  | txt (l : List Nat) : Kv K H (.str (S l)) (some l)
  | no {v : V} {t : Value} (ty : TyX K H v t) (h : PySem.W.kitOne K t (.type "str") = some false) : Kv K H v none
def tyN : PyData → String
  | .none => "NoneType"
  | .bool _ => "bool"
  | .int _ => "int"
  | .str _ => "str"
  | .list _ => "list"
  | .tuple _ => "tuple"
  | .dict _ => "dict"
def txtO : PyData → Option (List Nat)
  | .str s => some s.cps.toList
  | _ => none
def isSeqD : PyData → Bool
  | .list _ => true
  | .tuple _ => true
  | _ => false
theorem S_self (s : Str) : S s.cps.toList = s := by
  obtain ⟨c⟩ := s
  simp [S]
theorem ty_seqL {K : PySem.W.Frag} {H : Hp} {a : Addr} {xs : List V} (h : SqL K H a xs) : TyX K H (.ref a) (.type "list") := by
  rcases h with (h | ⟨o, h⟩) | ⟨o, its, n, h1, h2, _⟩
  · exact .base (.lst h)
  · exact .base (.frz h)
  · exact .kList h1 h2
theorem ty_seqT {K : PySem.W.Frag} {H : Hp} {a : Addr} {xs : List V} (h : SqT K H a xs) : TyX K H (.ref a) (.type "tuple") := by
  rcases h with (h | ⟨o, h⟩) | ⟨o, its, n, h1, h2, _⟩
  · exact .base (.tup h)
  · exact .fTuple h
  · exact .kTuple h1 h2
theorem dp_ty {K : PySem.W.Frag} {H : Hp} {v : V} {d : PyData} (h : Dp K H v d) : TyX K H v (.type (tyN d)) := by
  cases h with
  | non => exact .base .non
  | bl b => exact .base (.bl b)
  | int i => exact .base (.int i)
  | str x => exact .base (.str x)
  | lst h _ => exact ty_seqL h
  | tup h _ => exact ty_seqT h
theorem dp_kv {K : PySem.W.Frag} {H : Hp} {v : V} {d : PyData} (h : Dp K H v d) : Kv K H v (txtO d) := by
  have ty := dp_ty h
  cases h with
  | non => exact .no ty (kit_ty (a := "NoneType") (by decide +kernel))
  | bl b => exact .no ty (kit_ty (a := "bool") (by decide +kernel))
  | int i => exact .no ty (kit_ty (a := "int") (by decide +kernel))
  | str x =>
    have e : V.str x = V.str (S x.cps.toList) := by rw [S_self]
    rw [e]
    exact .txt _
  | lst h _ => exact .no ty (kit_ty (a := "list") (by decide +kernel))
  | tup h _ => exact .no ty (kit_ty (a := "tuple") (by decide +kernel))
theorem kv_ins {K : PySem.W.Frag} {H : Hp} {a C dx : Addr} {fs : List (Str × V)} (I : InsC K C) (hk : PySem.W.kitOne K (.ref C) (.type "str") = some false) (h : H a = some (.ins C dx fs)) : Kv K H (.ref a) none :=
  .no (.base (.ins h I.cl I.ha I.hn I.htk I.hm)) hk
mutual
theorem dp_same {K : PySem.W.Frag} {H H' : Hp} (s : Same H H') : ∀ (d : PyData) (v : V), Dp K H v d → Dp K H' v d
  | .none, _, h => by cases h; exact .non
  | .bool b, _, h => by cases h; exact .bl b
  | .int i, _, h => by cases h; exact .int i
  | .str x, _, h => by cases h; exact .str x
  | .list ds, _, h => by
    cases h with
    | lst hs ha => exact .lst (s.seq hs) (dpa_same s ds _ ha)
  | .tuple ds, _, h => by
    cases h with
    | tup hs ha => exact .tup (sm_seqT s hs) (dpa_same s ds _ ha)
  | .dict _, _, h => by cases h
theorem dpa_same {K : PySem.W.Frag} {H H' : Hp} (s : Same H H') : ∀ (ds : List PyData) (vs : List V), DpAll K H vs ds → DpAll K H' vs ds
  | [], _, h => by cases h; exact .nil
  | d :: ds, _, h => by
    cases h with
    | cons h1 h2 => exact .cons (dp_same s d _ h1) (dpa_same s ds _ h2)
end
theorem dpa_len {K : PySem.W.Frag} {H : Hp} : ∀ {vs : List V} {ds : List PyData}, DpAll K H vs ds → vs.length = ds.length
  | _, _, .nil => rfl
  | _, _, .cons _ h => by rw [List.length_cons, List.length_cons, dpa_len h]
theorem dpa_at {K : PySem.W.Frag} {H : Hp} : ∀ {vs : List V} {ds : List PyData}, DpAll K H vs ds → ∀ (i : Nat) (v : V), vs[i]? = some v → ∃ d, ds[i]? = some d ∧ Dp K H v d
  | _, _, .nil, i, v, h => by simp at h
  | _, _, .cons h _, 0, v, e => by cases e; exact ⟨_, rfl, h⟩
  | _, _, .cons _ h, i + 1, v, e => dpa_at h i v e
def seqD (b : Bool) (ds : List PyData) : PyData := if b = true then .list ds else .tuple ds
theorem dp_seq {K : PySem.W.Frag} {H : Hp} {v : V} {b : Bool} {ds : List PyData} (h : Dp K H v (seqD b ds)) : ∃ a xs, v = .ref a ∧ SqB K b H a xs ∧ DpAll K H xs ds := by
  cases b with
  | true =>
    have h : Dp K H v (.list ds) := h
    cases h with
    | lst hs ha => exact ⟨_, _, rfl, hs, ha⟩
  | false =>
    have h : Dp K H v (.tuple ds) := h
    cases h with
    | tup hs ha => exact ⟨_, _, rfl, hs, ha⟩
theorem isSeq_of {d : PyData} (h : isSeqD d = true) : ∃ b ds, d = seqD b ds := by
  cases d with
  | list ds => exact ⟨true, ds, rfl⟩
  | tuple ds => exact ⟨false, ds, rfl⟩
  | _ => cases h
theorem bools_of {ys : List V} {n : Nat} {f : Nat → Bool} (hl : ys.length = n) (h : ∀ (j : Nat) y, ys[j]? = some y → y = .bl (f j)) : ys = ((List.range n).map f).map V.bl := by
  rw [List.map_map]
  exact list_of hl h
theorem all_range {n : Nat} {f : Nat → Bool} : ((List.range n).map f).all id = decide (∀ i, i < n → f i = true) := by
  rw [Bool.eq_iff_iff, List.all_eq_true, decide_eq_true_eq]
  constructor
  · intro h i hi
    exact h _ (List.mem_map.mpr ⟨i, List.mem_range.mpr hi, rfl⟩)
  · intro h b hb
    obtain ⟨i, hi, rfl⟩ := List.mem_map.mp hb
    exact h i (List.mem_range.mp hi)
section
variable {P : Program} {w : World} {K : PySem.W.Frag} {mg : Str → Option Value} {base : Heap}
theorem cal_imp {P : Program} {w : World} {K : PySem.W.Frag} {mg : Str → Option Value} {base : Heap} {n : Str} {k : Nat} {sp sp' : Sp} (c : Cal P w K mg base k n sp []) (h : ∀ vs H Q E, sp' vs H Q E → sp vs H Q E) : Cal P w K mg base k n sp' [] := by
  obtain ⟨f, fd, ps, ds, F, a, b, c, d⟩ := c.ex
  exact ⟨f, fd, ps, ds, F.imp h, a, b, c, d⟩
def spIsSeqY (K : PySem.W.Frag) : Sp := fun vs H Q _ => ∃ (v : V) (t : Value) (b : Bool), vs = [v] ∧ (∀ H', Same H H' → TyX K H' v t) ∧ PySem.W.kitAny K t [.type "list", .type "tuple"] = some b ∧ ∀ H', Same H H' → Q (.bl b) H'
theorem ok_isseqY (T : BT mg) {f : Addr} {fd : FuncData} (F : Def K mg "is_sequence" s_isseq f fd) (b : Binds K fd ["value"] []) : Cal P w K mg base 1 "is_sequence" (spIsSeqY K) [] := by
  refine cal0 F b .nil sc_isseq (fun vs H Q E h => ?_) (fun cdv A outer s H vs Q E hr h => ?_)
  · obtain ⟨v, t, b, rfl, _⟩ := h; rfl
  · obtain ⟨v, ty, b, rfl, hd, hk, k⟩ := h
    refine ⟨_, (pss_one (ps_ret (pe_callB (isiTK K) (by rfl) T.m_isinstance PyProof.Rows.boot_isinstance (pa_cons (pv 0) (pa_cons (pe_tup (pa_cons (pe_bltn (v := .ty "list") (by rfl) T.m_list PyProof.Rows.boot_list rfl) (pa_cons (pe_bltn (v := .ty "tuple") (by rfl) T.m_tuple PyProof.Rows.boot_tuple rfl) pa_nil))) pa_nil))))
      ), ?_⟩
    walk_at "s"
    refine ⟨by decide, fun t ht => ?_⟩
    exact ⟨_, t, _, _, _, b, rfl, upd_same, .cons (.ty _) (.cons (.ty _) .nil), hd _ (sm_new ht), hk, k _ (sm_new ht)⟩
theorem kit_noseq {K : PySem.W.Frag} {a : String} (h1 : PySem.W.kitOne K (.type a) (.type "list") = some false) (h2 : PySem.W.kitOne K (.type a) (.type "tuple") = some false) : PySem.W.kitAny K (.type a) [.type "list", .type "tuple"] = some false :=
  kitAny_cons (b := false) h1 (fun _ => kitAny_cons (b := false) h2 (fun _ => rfl) (fun h => nomatch h)) (fun h => nomatch h)
theorem kit_list {K : PySem.W.Frag} : PySem.W.kitAny K (.type "list") [.type "list", .type "tuple"] = some true := kitAny_cons (b := true) (kit_ty (a := "list") (by decide +kernel)) (fun h => nomatch h) (fun _ => rfl)
theorem kit_tuple {K : PySem.W.Frag} : PySem.W.kitAny K (.type "tuple") [.type "list", .type "tuple"] = some true := kitAny_cons (b := false) (kit_ty (a := "tuple") (by decide +kernel)) (fun _ => kitAny_cons (b := true) (kit_ty (a := "tuple") (by decide +kernel)) (fun h => nomatch h) (fun _ => rfl)) (fun h => nomatch h)
def rowO (sg : List Nat) : Option (List Nat) → Bool
  | some l => decide (Ov sg l)
  | none => false
def Sm (o : Option (List Nat)) : Prop := ∀ l, o = some l → l.length ≤ 1000
def spIsRowD (K : PySem.W.Frag) : Sp := fun vs H Q _ => ∃ (v : V) (o : Option (List Nat)) (sg : List Nat), vs = [v, .str (S sg)] ∧ Kv K H v o ∧ Sm o ∧ Q (.bl (rowO sg o)) H
theorem ok_isrowD (T : BT mg) {f : Addr} {fd : FuncData} (F : Def K mg "is_row" s_isrow f fd) (b : Binds K fd ["value", "signs"] []) : Cal P w K mg base 1 "is_row" (spIsRowD K) [] := by
  refine cal0 F b .nil sc_isrow (fun vs H Q E h => ?_) (fun cdv A outer s H vs Q E hr h => ?_)
  · obtain ⟨v, o, sg, rfl, _⟩ := h; rfl
  · obtain ⟨v, o, sg, rfl, hv, hl, k⟩ := h
    refine ⟨_, (pss_one (ps_ret (pe_and (pe_callB (isiK K) (by rfl) T.m_isinstance PyProof.Rows.boot_isinstance (pa_cons (pv 0) (pa_cons (pe_bltn (v := .ty "str") (by rfl) T.m_str PyProof.Rows.boot_str rfl) pa_nil))) (pe_one (pe_cmpR op_eq (pe_bm PySem.F.plainAttrs_str PySem.F.slot_str_strip PySem.F.type_str_strip mt_stripChars (pv 0) (pa_cons (pv 1) pa_nil)) pe_str (nomark _)))))
      ), ?_⟩
    walk_at "s"
    cases hv with
    | no ty hk =>
      exact ⟨_, _, _, _, false, rfl, .ty _, ty, hk, false, rfl, iteN rfl k⟩
    | txt l =>
      have hl := hl l rfl
      refine ⟨_, _, _, _, true, rfl, .ty _, .base (.str _), kit_ty (by decide +kernel), true, rfl, ?_⟩
      refine iteT ?_
      refine ⟨_, rfl, rfl, _, rfl, S l, S sg, rfl, rfl, by rw [S_len]; exact sz hl (by decide), rfl, ?_⟩
      have e : V.bl (decide (V.str (Txt.stripChars (S l) (S sg)) = V.str (Str.ofString ""))) = V.bl (decide (Ov sg l)) := by
        rw [s_nil]
        refine congrArg V.bl (decide_eq_decide.mpr ?_)
        rw [V.str.injEq]
        exact strip_nil
      show Q (V.bl (decide (V.str (Txt.stripChars (S l) (S sg)) = V.str (Str.ofString "")))) H
      rw [e]
      exact k
def spIsLettersD (K : PySem.W.Frag) : Sp := fun vs H Q _ => ∃ (v : V) (o : Option (List Nat)), vs = [v] ∧ Kv K H v o ∧ Sm o ∧ Q (.bl (rowO az o)) H
theorem ok_islettersD (T : BT mg) {tz : Tok} (mgZ : mg "_LETTERS" = some (.str (S az) tz)) (c_isrow : Cal P w K mg base 1 "is_row" (spIsRowD K) []) {f : Addr} {fd : FuncData} (F : Def K mg "is_letters" s_isletters f fd) (b : Binds K fd ["value"] []) : Cal P w K mg base 2 "is_letters" (spIsLettersD K) [] := by
  refine cal0 F b .nil sc_isletters (fun vs H Q E h => ?_) (fun cdv A outer s H vs Q E hr h => ?_)
  · obtain ⟨v, o, rfl, _⟩ := h; rfl
  · obtain ⟨v, o, rfl, hv, hl, k⟩ := h
    refine ⟨_, (pss_one (ps_ret (pe_c c_isrow hr (by first | decide | omega) (by rfl) (pa_cons (pv 0) (pa_cons (pe_glob (v := .str (S az)) (by rfl) mgZ ⟨_, rfl⟩) pa_nil))))
      ), ?_⟩
    exact ⟨_, rfl, v, o, az, rfl, hv, hl, k⟩
instance (l : List Nat) : Decidable (Sg l) := by unfold Sg; infer_instance
def sgO : Option (List Nat) → Bool
  | some l => decide (Sg l)
  | none => false
def spIsSignsD (K : PySem.W.Frag) : Sp := fun vs H Q _ => ∃ (v : V) (o : Option (List Nat)), vs = [v] ∧ Kv K H v o ∧ Sm o ∧ ∀ H', Same H H' → Q (.bl (sgO o)) H'
theorem ok_issignsD (T : BT mg) (c_isletters : Cal P w K mg base 2 "is_letters" (spIsLettersD K) []) {f : Addr} {fd : FuncData} (F : Def K mg "is_signs" s_issigns f fd) (b : Binds K fd ["value"] []) : Cal P w K mg base 3 "is_signs" (spIsSignsD K) [] := by
  refine cal0 F b .nil sc_issigns (fun vs H Q E h => ?_) (fun cdv A outer s H vs Q E hr h => ?_)
  · obtain ⟨v, o, rfl, _⟩ := h; rfl
  · obtain ⟨v, o, rfl, hv, hl, k⟩ := h
    refine ⟨_, (pss_cons (ps_if (PW.pt (pw_or (pt_not (pt_val (pe_c c_isletters hr (by first | decide | omega) (by rfl) (pa_cons (pv 0) pa_nil)))) (pw_or (pt_cmpR op_lt (pe_callB call_len_str (by rfl) T.m_len PySem.boot_len (pa_cons (pv 0) pa_nil)) pe_int (nomark _)) (pw_or1 (pt_cmpR op_gt (pe_callB call_len_str (by rfl) T.m_len PySem.boot_len (pa_cons (pv 0) pa_nil)) pe_int (nomark _)))))) 
        (pss_one (ps_ret pe_bl)
        )
       pss_nil)
      (pss_one (ps_ret (pe_callB (cr_all rfl) (by rfl) T.m_all PyProof.Rows.boot_all (pa_cons (pe_lc (own := [("one", 1), ("other", 2)]) rfl sc_issigns.nd (pi_zipX (by rfl) T.m_zip (pa_cons (pv 0) (pa_cons (pe_slice sl_txt (pv 0) (po_some pe_int) po_none) pa_nil))) (blkOk_by (N := n_issigns) (sc := fnScope s_issigns) (by decide +kernel)) (fun _ _ _ _ _ => (tupK K 2 (pgs_cons (pg_name (i := 1) sc_issigns.nd rfl (.inl rfl)) (pgs_cons (pg_name (i := 2) sc_issigns.nd rfl (.inl rfl)) pgs_nil)))) (fun _ _ _ _ _ => pts_nil) (fun _ _ _ _ _ => (pe_cmpR op_lt_str (pv 1) (pv 2) (nomark _)))) pa_nil)))
      )), ?_⟩
    refine ⟨_, rfl, v, o, rfl, hv, hl, ?_⟩
    cases hv with
    | no ty hk => exact ⟨_, rfl, iteB rfl (k H (Same.refl H))⟩
    | txt l =>
      have hl := hl l rfl
      by_cases ha : Ov az l
      · rw [show rowO az (some l) = true from decide_eq_true ha]
        have hsl : (S l).length ≤ sizeLine := by rw [S_len]; exact Nat.le_trans hl (by decide)
        refine ⟨_, rfl, iteN rfl ?_⟩
        walk_at "s"
        refine ⟨hsl, ?_⟩
        walk_at "s"
        by_cases h1 : l.length < 1
        · refine iteB (by rw [S_len]; exact decide_eq_true (by omega)) ?_
          have e : sgO (some l) = false := decide_eq_false fun h => by have := h.2.1; omega
          rw [e] at k
          exact k H (Same.refl H)
        refine iteN (by rw [S_len]; exact decide_eq_false (by omega)) ?_
        walk_at "s"
        refine ⟨hsl, ?_⟩
        walk_at "s"
        by_cases h3 : 3 < l.length
        · refine iteB (by rw [S_len]; exact decide_eq_true (by omega)) ?_
          have e : sgO (some l) = false := decide_eq_false fun h => by have := h.2.2.1; omega
          rw [e] at k
          exact k H (Same.refl H)
        refine iteN (by rw [S_len]; exact decide_eq_false (by omega)) ?_
        walk_at "s"
        refine ⟨hsl, _, _, .txt (S l), .txt (S (l.drop 1)), rfl, rfl, slice_from (by decide), trivial, trivial, fun D hD => ?_⟩
        have hn : min (l.map fun c => V.str (S [c])).length ((l.drop 1).map fun c => V.str (S [c])).length = l.length - 1 := by
          rw [List.length_map, List.length_map, List.length_drop]; omega
        refine lc_keep (n := min (l.map fun c => V.str (S [c])).length ((l.drop 1).map fun c => V.str (S [c])).length) keep_same walk_zipX hD (by rw [hn]; exact small1000 (by omega)) (fun j y => y = .bl (decide (l.getD j 0 < l.getD (1 + j) 0))) (fun _ _ => ⟨rfl, rfl⟩) (fun i x H2 H3 R hii r1 hy hR => ?_) (fun ys H2 hly hg r1 hDs => ?_)
        · obtain ⟨t, x1, x2, rfl, ht, rfl, e1, e2⟩ := hy
          have e1 : (l.map fun c => V.str (S [c]))[i]? = some x1 := e1
          have e2 : ((l.drop 1).map fun c => V.str (S [c]))[i]? = some x2 := e2
          rw [List.getElem?_map] at e1 e2
          rw [List.getElem?_drop] at e2
          cases q1 : l[i]? with
          | none => rw [q1] at e1; cases e1
          | some c =>
            cases q2 : l[1 + i]? with
            | none => rw [q2] at e2; cases e2
            | some d =>
              rw [q1] at e1; rw [q2] at e2
              cases e1; cases e2
              refine ⟨t, _, rfl, .inl (.inl upd_same), rfl, _, _, rfl, _, _, rfl, rfl, rfl, ?_⟩
              walk_at "s"
              refine hR _ _ (sm_new ht) (congrArg V.bl ?_)
              rw [List.getD_eq_getElem?_getD, List.getD_eq_getElem?_getD, q1, q2]
              show decide (([c] : List Nat) < [d]) = decide (c < d)
              refine decide_eq_decide.mpr ?_
              rw [List.cons_lt_cons_iff]
              exact ⟨fun h => h.elim id fun h => absurd h.2 (by simp), .inl⟩
        · refine ⟨D, (List.range (l.length - 1)).map fun j => decide (l.getD j 0 < l.getD (1 + j) 0), rfl, SqL.of (by rw [← bools_of (hly.trans hn) hg]; exact hDs), ?_⟩
          rw [all_range]
          have e : sgO (some l) = decide (∀ i, i < l.length - 1 → decide (l.getD i 0 < l.getD (1 + i) 0) = true) := by
            refine decide_eq_decide.mpr ⟨fun h i hi => decide_eq_true ?_, fun h => ⟨?_, by omega, by omega, ov_az.mp ha⟩⟩
            · have i1 : i < l.length := by omega
              have i2 : i + 1 < l.length := by omega
              rw [List.getD_eq_getElem?_getD, List.getD_eq_getElem?_getD, Nat.add_comm 1 i, List.getElem?_eq_getElem i1, List.getElem?_eq_getElem i2]
              exact sg_asc h i _ _ (List.getElem?_eq_getElem i1) (List.getElem?_eq_getElem i2)
            · have key : ∀ i, i + 1 < l.length → l.getD i 0 < l.getD (i + 1) 0 := fun i hi => by
                have := of_decide_eq_true (h i (by omega))
                rw [Nat.add_comm 1 i] at this
                exact this
              match l, key with
              | [], _ => exact .nil
              | [a], _ => exact List.pairwise_singleton _ _
              | [a, b], key =>
                have := key 0 (by simp)
                simp at this
                exact .cons (fun x hx => by rw [List.mem_singleton.mp hx]; exact this) (List.pairwise_singleton _ _)
              | [a, b, c], key =>
                have k1 := key 0 (by simp)
                have k2 := key 1 (by simp)
                simp at k1 k2
                exact .cons (fun x hx => by rcases List.mem_cons.mp hx with rfl | hx; exact k1; rw [List.mem_singleton.mp hx]; omega) (.cons (fun x hx => by rw [List.mem_singleton.mp hx]; exact k2) (List.pairwise_singleton _ _))
              | _ :: _ :: _ :: _ :: _, _ => simp at h3
          rw [← e]
          exact k H2 r1
      · rw [show rowO az (some l) = false from decide_eq_false ha]
        refine ⟨_, rfl, iteB rfl ?_⟩
        have e : sgO (some l) = false := decide_eq_false fun h => ha (ov_az.mpr h.2.2.2)
        rw [e] at k
        exact k H (Same.refl H)
def spIsSeq : Sp := fun vs H Q _ => ∃ (p : Addr) (b : Bool) (xs : List V), vs = [.ref p] ∧ H p = some (seqB b xs) ∧ ∀ H', Same H H' → Q (.bl true) H'
theorem g_isseq (c : Cal P w K mg base 1 "is_sequence" (spIsSeqY K) []) : Cal P w K mg base 1 "is_sequence" spIsSeq [] := cal_imp c fun vs H Q E h => by
  obtain ⟨p, b, xs, rfl, hp, k⟩ := h
  cases b
  · exact ⟨_, _, true, rfl, fun H' s => ty_seqT (SqT.of (s _ _ hp)), kit_tuple, k⟩
  · exact ⟨_, _, true, rfl, fun H' s => ty_seqL (SqL.of (s _ _ hp)), kit_list, k⟩
def spIsRow : Sp := fun vs H Q _ => ∃ (sg l : List Nat), vs = [.str (S l), .str (S sg)] ∧ l.length ≤ 1000 ∧ Q (.bl (decide (Ov sg l))) H
theorem g_isrow (c : Cal P w K mg base 1 "is_row" (spIsRowD K) []) : Cal P w K mg base 1 "is_row" spIsRow [] := cal_imp c fun vs H Q E h => by
  obtain ⟨sg, l, rfl, hl, k⟩ := h
  exact ⟨_, some l, sg, rfl, .txt l, fun l' e => by cases e; exact hl, k⟩
def spIsLetters : Sp := fun vs H Q _ => ∃ (l : List Nat), vs = [.str (S l)] ∧ l.length ≤ 1000 ∧ Q (.bl (decide (Ov az l))) H
theorem g_isletters (c : Cal P w K mg base 2 "is_letters" (spIsLettersD K) []) : Cal P w K mg base 2 "is_letters" spIsLetters [] := cal_imp c fun vs H Q E h => by
  obtain ⟨l, rfl, hl, k⟩ := h
  exact ⟨_, some l, rfl, .txt l, fun l' e => by cases e; exact hl, k⟩
def spIsSigns : Sp := fun vs H Q _ => ∃ (sg : List Nat), vs = [.str (S sg)] ∧ Sg sg ∧ ∀ H', Same H H' → Q (.bl true) H'
theorem g_issigns (c : Cal P w K mg base 3 "is_signs" (spIsSignsD K) []) : Cal P w K mg base 3 "is_signs" spIsSigns [] := cal_imp c fun vs H Q E h => by
  obtain ⟨sg, rfl, hs, k⟩ := h
  refine ⟨_, some sg, rfl, .txt sg, fun l' e => by cases e; have := hs.2.2.1; omega, ?_⟩
  rw [show sgO (some sg) = true from decide_eq_true hs]
  exact k
end
end Toy
set_option maxHeartbeats 1000000
namespace Toy
open PySem L2 C8 SX LX
local macro_rules | `(tactic| walk_at "c") => `(tactic| refine And.intro (by first | (show (0 : Int) < _; omega) | exact Or.inr ⟨by decide, by decide⟩ | exact Or.inl ⟨by decide, by decide⟩ | (exact ⟨by omega, by omega⟩)) ?_)
local macro_rules | `(tactic| walk_at "s1") => `(tactic| first | refine ⟨_, rfl, ?_⟩ | refine ⟨_, _, rfl, rfl, ?_⟩ | refine .inl ⟨_, rfl, ?_⟩ | walk_at "c")
local macro_rules | `(tactic| walk_at "s") => `(tactic| repeat (walk_at "s1"))
section
variable {P : Program} {w : World} {K : PySem.W.Frag} {mg : Str → Option Value} {base : Heap}
abbrev s_isname : Stmt := top 17
abbrev n_isname : List Str := ["value"]
theorem sc_isname : FnScope n_isname ["value"] (fnScope s_isname) := fnScope_by (by decide +kernel)
def no10 : List (List Nat) := [[98, 97, 99, 107], [105, 115], [110, 111, 116], [97, 110, 100], [111, 114], [105, 102], [116, 104, 101, 110], [102, 111, 114], [97, 108, 108], [115, 111, 109, 101]]
def Name (m : List Nat) : Prop := 2 ≤ m.length ∧ m.length ≤ 6 ∧ (∀ c ∈ m, 97 ≤ c ∧ c ≤ 122) ∧ m ∉ no10
instance (m : List Nat) : Decidable (Name m) := by unfold Name; infer_instance
def spIsName : Sp := fun vs H Q _ => ∃ (m : List Nat), vs = [.str (S m)] ∧ m.length ≤ 16000000 ∧ Q (.bl (decide (Name m))) H
theorem ok_isname (T : BT mg) {NN : Addr} (mgN : mg "_NO_NAMES" = some (.ref NN)) (hN : ∀ H, SqT K H NN (txs no10)) (c_isletters : Cal P w K mg base 2 "is_letters" spIsLetters []) {f : Addr} {fd : FuncData} (F : Def K mg "is_name" s_isname f fd) (b : Binds K fd ["value"] []) : Cal P w K mg base 3 "is_name" spIsName [] := by
  refine cal0 F b .nil sc_isname (fun vs H Q E h => ?_) (fun cdv A outer s H vs Q E hr h => ?_)
  · obtain ⟨m, rfl, _⟩ := h; rfl
  · obtain ⟨m, rfl, hm, k⟩ := h
    refine ⟨_, (pss_one (ps_ret (pe_and (pe_callB (isiK K) (by rfl) T.m_isinstance PyProof.Rows.boot_isinstance (pa_cons (pv 0) (pa_cons (pe_bltn (v := .ty "str") (by rfl) T.m_str PyProof.Rows.boot_str rfl) pa_nil))) (pe_and (pe_chain op_le op_le pe_int (pe_callB call_len_str (by rfl) T.m_len PySem.boot_len (pa_cons (pv 0) pa_nil)) pe_int) (pe_and (pe_c c_isletters hr (by first | decide | omega) (by rfl) (pa_cons (pv 0) pa_nil)) (pe_one (pe_cmpR (notInK K) (pv 0) (pe_glob (v := .ref NN) (by rfl) mgN rfl) rfl))))))
      ), ?_⟩
    have hsl : (S m).length ≤ sizeLine := by rw [S_len]; exact Nat.le_trans hm (by decide)
    walk_at "s"
    refine ⟨_, _, _, _, true, rfl, .ty _, .base (.str _), kit_ty (by decide +kernel), true, rfl, ?_⟩
    refine iteT ?_
    have fin : ∀ {b : Bool}, (b = true ↔ Name m) → Q (.bl b) H := fun {b} h => by
      have : b = decide (Name m) := by
        rw [Bool.eq_iff_iff, decide_eq_true_eq]; exact h
      rw [this]; exact k
    refine ⟨_, rfl, S m, rfl, hsl, _, _, rfl, rfl, _, rfl, ?_⟩
    rw [S_len]
    by_cases h2 : 2 ≤ m.length
    · refine iteB (decide_eq_true (by omega)) ?_
      refine ⟨_, _, rfl, rfl, ?_⟩
      by_cases h6 : m.length ≤ 6
      · refine ⟨_, rfl, iteB (decide_eq_true (by omega)) ?_⟩
        refine ⟨_, rfl, m, rfl, by omega, _, rfl, ?_⟩
        by_cases ho : Ov az m
        · refine iteB (decide_eq_true ho) ?_
          refine ⟨_, rfl, NN, txs no10, rfl, .inr (hN H), rfl, flat_txs _, ?_⟩
          rw [inV_txs]
          refine fin ?_
          rw [if_pos rfl, Bool.not_eq_true', decide_eq_false_iff_not]
          exact ⟨fun h => ⟨h2, h6, ov_az.mp ho, h⟩, fun h => h.2.2.2⟩
        · refine iteN (decide_eq_false ho) ?_
          exact fin ⟨fun h => (nomatch h), fun h => absurd (ov_az.mpr h.2.2.1) ho⟩
      · refine ⟨_, rfl, iteN (decide_eq_false (by omega)) ?_⟩
        exact fin ⟨fun h => (nomatch h), fun h => absurd h.2.1 h6⟩
    · refine iteN (decide_eq_false (by omega)) ⟨_, rfl, iteN rfl ?_⟩
      exact fin ⟨fun h => (nomatch h), fun h => absurd h.1 h2⟩
theorem all_of {b : Bool} {xs : List V} {p : Addr} {K : PySem.W.Frag} {H : Hp} (h : H p = some (seqB b xs)) {H' : Hp} (s : Same H H') : SqB K b H' p xs := SqB.of (s _ _ h)
abbrev s_ismarks : Stmt := top 24
abbrev n_ismarks : List Str := ["value", "mark"]
theorem sc_ismarks : FnScope n_ismarks ["value"] (fnScope s_ismarks) := fnScope_by (by decide +kernel)
def spIsMarks : Sp := fun vs H Q _ => ∃ (p : Addr) (b : Bool) (ms : List (List Nat)), vs = [.ref p] ∧ H p = some (seqB b (txs ms)) ∧ 1 ≤ ms.length ∧ ms.length < 60 ∧ ms.Nodup ∧ (∀ m ∈ ms, Name m) ∧ ∀ H', Same H H' → Q (.bl true) H'
theorem ok_ismarks (T : BT mg) (c_isseq : Cal P w K mg base 1 "is_sequence" spIsSeq []) (c_isname : Cal P w K mg base 3 "is_name" spIsName []) {f : Addr} {fd : FuncData} (F : Def K mg "_is_marks" s_ismarks f fd) (b : Binds K fd ["value"] []) : Cal P w K mg base 4 "_is_marks" spIsMarks [] := by
  refine cal0 F b .nil sc_ismarks (fun vs H Q E h => ?_) (fun cdv A outer s H vs Q E hr h => ?_)
  · obtain ⟨p, b, ms, rfl, _⟩ := h; rfl
  · obtain ⟨p, b, ms, rfl, hp, h1, h60, nd, hms, k⟩ := h
    refine ⟨_, (pss_cons (ps_if (PW.pt (pw_or (pt_not (pt_val (pe_c c_isseq hr (by first | decide | omega) (by rfl) (pa_cons (pv 0) pa_nil)))) (pw_or (pt_cmpR op_eq (pe_callB (lenK K) (by rfl) T.m_len PySem.boot_len (pa_cons (pv 0) pa_nil)) pe_int (nomark _)) (pw_or1 (pt_not (pt_val (pe_callB (cr_all rfl) (by rfl) T.m_all PyProof.Rows.boot_all (pa_cons (pe_lc (own := [("mark", 1)]) rfl sc_ismarks.nd (pi_seq (pv 0)) (blkOk_by (N := n_ismarks) (sc := fnScope s_ismarks) (by decide +kernel)) (fun _ _ _ _ _ => (pg_name (i := 1) sc_ismarks.nd rfl (.inl rfl))) (fun _ _ _ _ _ => pts_nil) (fun _ _ _ _ _ => (pe_c c_isname hr (by first | decide | omega) (by rfl) (pa_cons (pv 1) pa_nil)))) pa_nil)))))))) 
        (pss_one (ps_ret pe_bl)
        )
       pss_nil)
      (pss_one (ps_ret (pe_cmpR op_eq (pe_lenSetT rfl (by rfl) T.m_len (by rfl) T.m_set (pv 0)) (pe_callB (lenK K) (by rfl) T.m_len PySem.boot_len (pa_cons (pv 0) pa_nil)) (nomark _)))
      )), ?_⟩
    refine ⟨_, rfl, p, b, txs ms, rfl, hp, fun H1 s1 => ?_⟩
    refine ⟨true, rfl, ?_⟩
    refine iteN rfl ?_
    refine ⟨_, rfl, p, _, rfl, (all_of hp s1).or, rfl, _, rfl, ?_⟩
    refine iteN (by rw [txs_len]; exact decide_eq_false (by show ¬ V.int (ms.length : Int) = V.int 0; intro h; have := V.int.inj h; omega)) ?_
    have hB1 : SqB K b H1 p (txs ms) := all_of hp s1
    refine ⟨_, rfl, p, b, txs ms, rfl, hB1, fun D hD => lc_keep keep_same (walk_seq (K := K) (b := b) (a := p) (xs := txs ms)) hD (by rw [txs_len]; exact small1000 (by omega)) (fun _ y => y = .bl true) (fun H2 r => hB1.same r) (fun i x H2 H3 R hii r1 hy hR => ?_) (fun ys H2 hly hg r1 hDs => ?_)⟩
    · obtain ⟨rfl, e⟩ := hy
      obtain ⟨m, hm, rfl⟩ := txs_get e
      refine ⟨rfl, ?_⟩
      have hnm := hms m (List.mem_of_getElem? hm)
      refine ⟨_, rfl, m, rfl, by have := hnm.2.1; omega, ?_⟩
      rw [decide_eq_true hnm]
      exact hR _ _ (Same.refl _) rfl
    · refine ⟨D, List.replicate ys.length true, rfl, SqL.of (by rw [← all_true hg]; exact hDs), ?_⟩
      rw [rep_all]
      have hB2 : SqB K b H2 p (txs ms) := hB1.same r1
      refine ⟨_, rfl, ?_⟩
      refine ⟨_, rfl, p, ms, rfl, hB2.or, h60, nd, ?_⟩
      refine ⟨_, rfl, p, _, rfl, hB2.or, rfl, ?_⟩
      rw [txs_len, decide_eq_true rfl]
      exact k H2 (s1.trans r1)
abbrev s_istargets : Stmt := top 26
abbrev n_istargets : List Str := ["value", "signs", "marks", "mark"]
theorem sc_istargets : FnScope n_istargets ["value", "signs", "marks"] (fnScope s_istargets) := fnScope_by (by decide +kernel)
def spIsTargets : Sp := fun vs H Q _ => ∃ (p q : Addr) (b c : Bool) (ts ms : List (List Nat)) (sg : List Nat), vs = [.ref p, .str (S sg), .ref q] ∧ H p = some (seqB b (txs ts)) ∧ H q = some (seqB c (txs ms)) ∧ ts.length = sg.length ∧ sg.length ≤ 3 ∧ (∀ t ∈ ts, t ∈ ms) ∧ ∀ H', Same H H' → Q (.bl true) H'
theorem ok_istargets (T : BT mg) (c_isseq : Cal P w K mg base 1 "is_sequence" spIsSeq []) {f : Addr} {fd : FuncData} (F : Def K mg "_is_targets" s_istargets f fd) (b : Binds K fd ["value", "signs", "marks"] []) : Cal P w K mg base 2 "_is_targets" spIsTargets [] := by
  refine cal0 F b .nil sc_istargets (fun vs H Q E h => ?_) (fun cdv A outer s H vs Q E hr h => ?_)
  · obtain ⟨p, q, b, c, ts, ms, sg, rfl, _⟩ := h; rfl
  · obtain ⟨p, q, b, c, ts, ms, sg, rfl, hp, hq, hl, hl3, ht, k⟩ := h
    refine ⟨_, (pss_cons (ps_if (PW.pt (pw_or (pt_not (pt_val (pe_c c_isseq hr (by first | decide | omega) (by rfl) (pa_cons (pv 0) pa_nil)))) (pw_or1 (pt_cmpR op_ne (pe_callB (lenK K) (by rfl) T.m_len PySem.boot_len (pa_cons (pv 0) pa_nil)) (pe_callB call_len_str (by rfl) T.m_len PySem.boot_len (pa_cons (pv 1) pa_nil)) (nomark _))))) 
        (pss_one (ps_ret pe_bl)
        )
       pss_nil)
      (pss_one (ps_ret (pe_callB (cr_all rfl) (by rfl) T.m_all PyProof.Rows.boot_all (pa_cons (pe_lc (own := [("mark", 3)]) rfl sc_istargets.nd (pi_seq (pv 0)) (blkOk_by (N := n_istargets) (sc := fnScope s_istargets) (by decide +kernel)) (fun _ _ _ _ _ => (pg_name (i := 3) sc_istargets.nd rfl (.inl rfl))) (fun _ _ _ _ _ => pts_nil) (fun _ _ _ _ _ => (pe_cmpR (inK K) (pv 3) (pv 2) rfl))) pa_nil)))
      )), ?_⟩
    refine ⟨_, rfl, p, b, txs ts, rfl, hp, fun H1 s1 => ?_⟩
    refine ⟨true, rfl, ?_⟩
    refine iteN rfl ?_
    have hB1 : SqB K b H1 p (txs ts) := all_of hp s1
    have hC1 : SqB K c H1 q (txs ms) := all_of hq s1
    refine ⟨_, rfl, p, _, rfl, hB1.or, _, rfl, _, rfl, by rw [S_len]; exact sz (m := 3) hl3 (by decide), rfl, _, rfl, ?_⟩
    refine iteN (by rw [txs_len, S_len, hl]; simp) ?_
    refine ⟨_, rfl, p, b, txs ts, rfl, hB1, fun D hD => lc_keep keep_same (walk_seq (K := K) (b := b) (a := p) (xs := txs ts)) hD (by rw [txs_len]; exact small1000 (by omega)) (fun _ y => y = .bl true) (fun H2 r => hB1.same r) (fun i x H2 H3 R hii r1 hy hR => ?_) (fun ys H2 hly hg r1 hDs => ?_)⟩
    · obtain ⟨rfl, e⟩ := hy
      obtain ⟨m, hm, rfl⟩ := txs_get e
      refine ⟨rfl, ?_⟩
      refine ⟨_, rfl, _, rfl, q, txs ms, rfl, (hC1.same r1).or, rfl, flat_txs _, ?_⟩
      refine hR _ _ (Same.refl _) ?_
      rw [inV_txs, decide_eq_true (ht m (List.mem_of_getElem? hm))]; rfl
    · refine ⟨D, List.replicate ys.length true, rfl, SqL.of (by rw [← all_true hg]; exact hDs), ?_⟩
      rw [rep_all]
      exact k H2 (s1.trans r1)
abbrev s_issteps : Stmt := top 25
abbrev n_issteps : List Str := ["value", "signs", "marks", "targets"]
theorem sc_issteps : FnScope n_issteps ["value", "signs", "marks"] (fnScope s_issteps) := fnScope_by (by decide +kernel)
def spIsSteps : Sp := fun vs H Q _ => ∃ (p q : Addr) (b b2 c : Bool) (ps : List Addr) (tss : List (List (List Nat))) (ms : List (List Nat)) (sg : List Nat), vs = [.ref p, .str (S sg), .ref q] ∧ H p = some (seqB b (ps.map V.ref)) ∧ H q = some (seqB c (txs ms)) ∧ sg.length ≤ 3 ∧ ms.length < 60 ∧ ps.length = ms.length ∧
  tss.length = ps.length ∧ (∀ (i : Nat) (a : Addr) (ts : List (List Nat)), ps[i]? = some a → tss[i]? = some ts → H a = some (seqB b2 (txs ts)) ∧ ts.length = sg.length ∧ ∀ t ∈ ts, t ∈ ms) ∧ ∀ H', Same H H' → Q (.bl true) H'
theorem ok_issteps (T : BT mg) (c_isseq : Cal P w K mg base 1 "is_sequence" spIsSeq []) (c_istargets : Cal P w K mg base 2 "_is_targets" spIsTargets []) {f : Addr} {fd : FuncData} (F : Def K mg "_is_steps" s_issteps f fd) (b : Binds K fd ["value", "signs", "marks"] []) : Cal P w K mg base 3 "_is_steps" spIsSteps [] := by
  refine cal0 F b .nil sc_issteps (fun vs H Q E h => ?_) (fun cdv A outer s H vs Q E hr h => ?_)
  · obtain ⟨p, q, b, b2, c, ps, tss, ms, sg, rfl, _⟩ := h; rfl
  · obtain ⟨p, q, b, b2, c, ps, tss, ms, sg, rfl, hp, hq, hl3, h60, hl, hlt, hts, k⟩ := h
    refine ⟨_, (pss_cons (ps_if (PW.pt (pw_or (pt_not (pt_val (pe_c c_isseq hr (by first | decide | omega) (by rfl) (pa_cons (pv 0) pa_nil)))) (pw_or1 (pt_cmpR op_ne (pe_callB (lenK K) (by rfl) T.m_len PySem.boot_len (pa_cons (pv 0) pa_nil)) (pe_callB (lenK K) (by rfl) T.m_len PySem.boot_len (pa_cons (pv 2) pa_nil)) (nomark _))))) 
        (pss_one (ps_ret pe_bl)
        )
       pss_nil)
      (pss_one (ps_ret (pe_callB (cr_all rfl) (by rfl) T.m_all PyProof.Rows.boot_all (pa_cons (pe_lc (own := [("targets", 3)]) rfl sc_issteps.nd (pi_seq (pv 0)) (blkOk_by (N := n_issteps) (sc := fnScope s_issteps) (by decide +kernel)) (fun _ _ _ _ _ => (pg_name (i := 3) sc_issteps.nd rfl (.inl rfl))) (fun _ _ _ _ _ => pts_nil) (fun _ _ _ _ _ => (pe_c c_istargets hr (by first | decide | omega) (by rfl) (pa_cons (pv 3) (pa_cons (pv 1) (pa_cons (pv 2) pa_nil)))))) pa_nil)))
      )), ?_⟩
    refine ⟨_, rfl, p, b, _, rfl, hp, fun H1 s1 => ?_⟩
    refine ⟨true, rfl, ?_⟩
    refine iteN rfl ?_
    have hB1 : SqB K b H1 p (ps.map V.ref) := all_of hp s1
    have hC1 : SqB K c H1 q (txs ms) := all_of hq s1
    refine ⟨_, rfl, p, _, rfl, hB1.or, _, rfl, q, _, rfl, hC1.or, rfl, _, rfl, ?_⟩
    refine iteN (by rw [txs_len, List.length_map, hl]; simp) ?_
    refine ⟨_, rfl, p, b, ps.map V.ref, rfl, hB1, fun D hD => lc_keep keep_same (walk_seq (K := K) (b := b) (a := p) (xs := ps.map V.ref)) hD (by rw [List.length_map]; exact small1000 (by omega)) (fun _ y => y = .bl true) (fun H2 r => hB1.same r) (fun i x H2 H3 R hii r1 hy hR => ?_) (fun ys H2 hly hg r1 hDs => ?_)⟩
    · obtain ⟨rfl, e⟩ := hy
      rw [List.getElem?_map] at e
      have hi : i < ps.length := by rw [List.length_map] at hii; exact hii
      have hi2 : i < tss.length := by omega
      rw [List.getElem?_eq_getElem hi] at e
      cases e
      obtain ⟨h1, h2, h3⟩ := hts i _ _ (List.getElem?_eq_getElem hi) (List.getElem?_eq_getElem hi2)
      refine ⟨rfl, ?_⟩
      refine ⟨_, rfl, _, rfl, _, rfl, ps[i], q, b2, c, tss[i], ms, sg, rfl, (s1.trans r1) _ _ h1, (s1.trans r1) _ _ hq, h2, hl3, h3, fun H4 s4 => hR _ _ s4 rfl⟩
    · refine ⟨D, List.replicate ys.length true, rfl, SqL.of (by rw [← all_true hg]; exact hDs), ?_⟩
      rw [rep_all]
      exact k H2 (s1.trans r1)
end
end Toy
set_option maxHeartbeats 4000000
namespace Toy
open PySem L2 C8 SX LX
local macro_rules | `(tactic| walk_at "c") => `(tactic| refine And.intro (by first | (show (0 : Int) < _; omega) | exact Or.inr ⟨by decide, by decide⟩ | exact Or.inl ⟨by decide, by decide⟩ | (exact ⟨by omega, by omega⟩)) ?_)
local macro_rules | `(tactic| walk_at "s1") => `(tactic| first | refine ⟨_, rfl, ?_⟩ | refine ⟨_, _, rfl, rfl, ?_⟩ | refine .inl ⟨_, rfl, ?_⟩ | walk_at "c")
local macro_rules | `(tactic| walk_at "s") => `(tactic| repeat (walk_at "s1"))
section
variable {P : Program} {w : World} {K : PySem.W.Frag} {mg : Str → Option Value} {base : Heap}
structure CR (K : PySem.W.Frag) (C : Addr) : Prop where
  cl : Cls K C
  nS : PySem.W.findIn K (.ref C) "signs" = some none
  nM : PySem.W.findIn K (.ref C) "marks" = some none
  nF : PySem.W.findIn K (.ref C) "first" = some none
  nT : PySem.W.findIn K (.ref C) "steps" = some none
  nN : PySem.W.findIn K (.ref C) "_numbers" = some none
  nL : PySem.W.findIn K (.ref C) "_leads" = some none
  nC : PySem.W.findIn K (.ref C) "_columns" = some none
def rdF (sg : List Nat) (m : Addr) (f : List Nat) (st nu le : Addr) (t : List (Str × V)) : List (Str × V) :=
  ("signs", .str (S sg)) :: ("marks", .ref m) :: ("first", .str (S f)) :: ("steps", .ref st) :: ("_numbers", .ref nu) :: ("_leads", .ref le) :: t
def numK (ms : List (List Nat)) : List (Key × V) := (List.range ms.length).map fun i => (tk (ms.getD i []), .int (i : Nat))
structure RdrAt (C : Addr) (H : Hp) (a : Addr) (sg : List Nat) (ms : List (List Nat)) (f : List Nat) (tg : List Nat → Nat → List Nat) (dx m st nu le : Addr) (sa la : List Nat → Addr) (t : List (Str × V)) : Prop where
  ha : H a = some (.ins C dx (rdF sg m f st nu le t))
  hm : H m = some (.tup (txs ms))
  hst : H st = some (.tup (ms.map fun x => .ref (sa x)))
  hsa : ∀ x ∈ ms, H (sa x) = some (.tup (txs (sg.map (tg x))))
  hnu : H nu = some (.dK (numK ms))
  hle : H le = some (.dK (leK ms la))
  hla : ∀ x ∈ ms, H (la x) = some (.dK (laK sg (tg x)))
def colI (ms : List (List Nat)) (tg : List Nat → Nat → List Nat) (c : Nat) : List V := ms.map fun x => V.int (ms.idxOf (tg x c) : Nat)
def coK (sg : List Nat) (ca : Nat → Addr) : List (Key × V) := sg.map fun c => (tk [c], .ref (ca c))
structure ColAt (H : Hp) (co : Addr) (sg : List Nat) (ms : List (List Nat)) (tg : List Nat → Nat → List Nat) (ca : Nat → Addr) : Prop where
  hco : H co = some (.dK (coK sg ca))
  hca : ∀ c ∈ sg, H (ca c) = some (.tup (colI ms tg c))
def TailOk (t : List (Str × V)) : Prop := t = [] ∨ ∃ co : Addr, t = ([("_columns", .ref co)] : List (Str × V))
def Rdr0 (C : Addr) (H : Hp) (a : Addr) (sg : List Nat) (ms : List (List Nat)) (f : List Nat) (tg : List Nat → Nat → List Nat) : Prop := ∃ dx m st nu le sa la t, TailOk t ∧ RdrAt C H a sg ms f tg dx m st nu le sa la t
def Rdr (C : Addr) (H : Hp) (a : Addr) (sg : List Nat) (ms : List (List Nat)) (f : List Nat) (tg : List Nat → Nat → List Nat) : Prop := ∃ dx m st nu le sa la co ca, RdrAt C H a sg ms f tg dx m st nu le sa la [("_columns", .ref co)] ∧ ColAt H co sg ms tg ca
theorem Rdr.to0 {C : Addr} {H : Hp} {a : Addr} {sg : List Nat} {ms : List (List Nat)} {f : List Nat} {tg : List Nat → Nat → List Nat} (r : Rdr C H a sg ms f tg) : Rdr0 C H a sg ms f tg :=
  let ⟨dx, m, st, nu, le, sa, la, co, ca, h, _⟩ := r; ⟨dx, m, st, nu, le, sa, la, _, .inr ⟨co, rfl⟩, h⟩
theorem putF_new {f : Str} {v : V} : ∀ {fs : List (Str × V)}, (∀ p ∈ fs, ¬ p.1 = f) → putF f v fs = fs ++ [(f, v)]
  | [], _ => rfl
  | (g, u) :: fs, h => by
    show (if g = f then _ else (g, u) :: putF f v fs) = _
    rw [if_neg (h (g, u) List.mem_cons_self), putF_new fun p hp => h p (List.mem_cons_of_mem _ hp)]; rfl
theorem nm6 : ([("signs" : Str), "marks", "first", "steps", "_numbers", "_leads"] : List Str).Nodup := by decide +kernel
theorem pf1 (v0 : V) : putF ("signs" : Str) v0 ([] : List (Str × V)) = ([("signs", v0)] : List (Str × V)) := rfl
theorem pf2 (v0 v1 : V) : putF ("marks" : Str) v1 ([("signs", v0)] : List (Str × V)) = ([("signs", v0), ("marks", v1)] : List (Str × V)) := putF_new fun p hp => by
  simp at hp; rcases hp with rfl; dsimp only; decide +kernel
theorem pf3 (v0 v1 v2 : V) : putF ("first" : Str) v2 ([("signs", v0), ("marks", v1)] : List (Str × V)) = ([("signs", v0), ("marks", v1), ("first", v2)] : List (Str × V)) := putF_new fun p hp => by
  simp at hp; rcases hp with rfl | rfl <;> (dsimp only; decide +kernel)
theorem pf4 (v0 v1 v2 v3 : V) : putF ("steps" : Str) v3 ([("signs", v0), ("marks", v1), ("first", v2)] : List (Str × V)) = ([("signs", v0), ("marks", v1), ("first", v2), ("steps", v3)] : List (Str × V)) := putF_new fun p hp => by
  simp at hp; rcases hp with rfl | rfl | rfl <;> (dsimp only; decide +kernel)
theorem pf5 (v0 v1 v2 v3 v4 : V) : putF ("_numbers" : Str) v4 ([("signs", v0), ("marks", v1), ("first", v2), ("steps", v3)] : List (Str × V)) = ([("signs", v0), ("marks", v1), ("first", v2), ("steps", v3), ("_numbers", v4)] : List (Str × V)) := putF_new fun p hp => by
  simp at hp; rcases hp with rfl | rfl | rfl | rfl <;> (dsimp only; decide +kernel)
theorem pf6 (v0 v1 v2 v3 v4 v5 : V) : putF ("_leads" : Str) v5 ([("signs", v0), ("marks", v1), ("first", v2), ("steps", v3), ("_numbers", v4)] : List (Str × V)) = ([("signs", v0), ("marks", v1), ("first", v2), ("steps", v3), ("_numbers", v4), ("_leads", v5)] : List (Str × V)) := putF_new fun p hp => by
  simp at hp; rcases hp with rfl | rfl | rfl | rfl | rfl <;> (dsimp only; decide +kernel)
theorem pf7 (v0 v1 v2 v3 v4 v5 v6 : V) : putF ("_columns" : Str) v6 ([("signs", v0), ("marks", v1), ("first", v2), ("steps", v3), ("_numbers", v4), ("_leads", v5)] : List (Str × V)) = ([("signs", v0), ("marks", v1), ("first", v2), ("steps", v3), ("_numbers", v4), ("_leads", v5), ("_columns", v6)] : List (Str × V)) := putF_new fun p hp => by
  simp at hp; rcases hp with rfl | rfl | rfl | rfl | rfl | rfl <;> (dsimp only; decide +kernel)
theorem RdrAt.same {C : Addr} {H H' : Hp} {a : Addr} {sg : List Nat} {ms : List (List Nat)} {f : List Nat} {tg : List Nat → Nat → List Nat} {dx m st nu le : Addr} {sa la : List Nat → Addr} {t : List (Str × V)} (h : RdrAt C H a sg ms f tg dx m st nu le sa la t) (s : Same H H') : RdrAt C H' a sg ms f tg dx m st nu le sa la t :=
  ⟨s _ _ h.ha, s _ _ h.hm, s _ _ h.hst, fun x hx => s _ _ (h.hsa x hx), s _ _ h.hnu, s _ _ h.hle, fun x hx => s _ _ (h.hla x hx)⟩
theorem ColAt.same {H H' : Hp} {co : Addr} {sg : List Nat} {ms : List (List Nat)} {tg : List Nat → Nat → List Nat} {ca : Nat → Addr} (h : ColAt H co sg ms tg ca) (s : Same H H') : ColAt H' co sg ms tg ca := ⟨s _ _ h.hco, fun c hc => s _ _ (h.hca c hc)⟩
theorem Rdr.same {C : Addr} {H H' : Hp} {a : Addr} {sg : List Nat} {ms : List (List Nat)} {f : List Nat} {tg : List Nat → Nat → List Nat} (r : Rdr C H a sg ms f tg) (s : Same H H') : Rdr C H' a sg ms f tg :=
  let ⟨dx, m, st, nu, le, sa, la, co, ca, h, hc⟩ := r; ⟨dx, m, st, nu, le, sa, la, co, ca, h.same s, hc.same s⟩
theorem Rdr0.same {C : Addr} {H H' : Hp} {a : Addr} {sg : List Nat} {ms : List (List Nat)} {f : List Nat} {tg : List Nat → Nat → List Nat} (r : Rdr0 C H a sg ms f tg) (s : Same H H') : Rdr0 C H' a sg ms f tg :=
  let ⟨dx, m, st, nu, le, sa, la, t, ht, h⟩ := r; ⟨dx, m, st, nu, le, sa, la, t, ht, h.same s⟩
structure Good (sg : List Nat) (ms : List (List Nat)) (f : List Nat) (tg : List Nat → Nat → List Nat) : Prop where
  hsg : Sg sg
  hnd : ms.Nodup
  h1 : 1 ≤ ms.length
  h8 : ms.length ≤ 8
  hnm : ∀ m ∈ ms, Name m
  hf : f ∈ ms
  htg : ∀ m ∈ ms, ∀ c ∈ sg, tg m c ∈ ms
theorem zip_self_map {α β γ : Type} (g : α → β) (f : α → γ) : ∀ l : List α, ((l.zip (l.map f)).map fun p => (g p.1, p.2)) = l.map fun a => (g a, f a)
  | [] => rfl
  | a :: l => by
    have := zip_self_map g f l
    simp only [List.map_cons, List.zip_cons_cons] at this ⊢
    rw [this]
theorem la_dict {sg : List Nat} (hn : sg.Nodup) (t : Nat → List Nat) : mergeK [] ((sg.zip (txs (sg.map t))).map fun p => (tk [p.1], p.2)) = laK sg t := by
  have e : txs (sg.map t) = sg.map fun c => V.str (S (t c)) := by unfold txs; rw [List.map_map]; rfl
  rw [e, zip_self_map (fun c => tk [c]), merge_nil (nodup_keys (key := fun c => tk [c]) (fun a b h => (List.cons.inj (tk_inj h)).1) hn)]
  rfl
theorem getD_of {ms : List (List Nat)} {i : Nat} {m : List Nat} (h : ms[i]? = some m) : ms.getD i [] = m := by rw [List.getD_eq_getElem?_getD, h]; rfl
theorem key_inj {ms : List (List Nat)} (nd : ms.Nodup) : ∀ i j, i < ms.length → j < i → tk (ms.getD j []) ≠ tk (ms.getD i []) := fun i j hi hj h => by
  have e := tk_inj h
  have hj2 : j < ms.length := by omega
  rw [List.getD_eq_getElem?_getD, List.getD_eq_getElem?_getD, List.getElem?_eq_getElem hi, List.getElem?_eq_getElem hj2] at e
  have e1 := nd.idxOf_getElem i hi
  have e2 := nd.idxOf_getElem j hj2
  rw [show ms[j] = ms[i] from e, e1] at e2
  omega
end
section
variable {C : Addr} {H : Hp} {a : Addr} {sg : List Nat} {ms : List (List Nat)} {f : List Nat} {tg : List Nat → Nat → List Nat} {dx m st nu le : Addr} {sa la : List Nat → Addr} {t : List (Str × V)}
theorem rl_signs : (rdF sg m f st nu le t).lookup ("signs" : Str) = some (.str (S sg)) := by rfl
theorem rl_marks : (rdF sg m f st nu le t).lookup ("marks" : Str) = some (.ref m) := by rfl
theorem rl_first : (rdF sg m f st nu le t).lookup ("first" : Str) = some (.str (S f)) := by rfl
theorem rl_steps : (rdF sg m f st nu le t).lookup ("steps" : Str) = some (.ref st) := by rfl
theorem rl_numbers : (rdF sg m f st nu le t).lookup ("_numbers" : Str) = some (.ref nu) := by rfl
theorem rl_leads : (rdF sg m f st nu le t).lookup ("_leads" : Str) = some (.ref le) := by rfl
theorem RdrAt.mark (r : RdrAt C H a sg ms f tg dx m st nu le sa la t) {x : List Nat} (h : x ∈ ms) : DGet H le (.str (S x)) (some (.ref (la x))) := .inl ⟨_, tk x, .inl r.hle, rfl, (valV_map' (key := tk) (f := fun m => V.ref (la m)) (fun _ _ => tk_inj) h).symm⟩
theorem RdrAt.at_ (r : RdrAt C H a sg ms f tg dx m st nu le sa la t) {x : List Nat} (h : x ∈ ms) {c : Nat} (hc : c ∈ sg) : DGet H (la x) (.str (S [c])) (some (.str (S (tg x c)))) :=
  .inl ⟨_, tk [c], .inl (r.hla x h), rfl, (valV_map' (key := fun c => tk [c]) (f := fun c => V.str (S (tg x c))) (fun _ _ e => (List.cons.inj (tk_inj e)).1) hc).symm⟩
theorem numK_eq (ms : List (List Nat)) (nd : ms.Nodup) : numK ms = ms.map fun x => (tk x, V.int (ms.idxOf x : Nat)) := by
  unfold numK
  symm
  refine list_of (f := fun i => (tk (ms.getD i []), V.int (i : Nat))) (by rw [List.length_map]) fun j y hy => ?_
  rw [List.getElem?_map] at hy
  cases q : ms[j]? with
  | none => rw [q] at hy; cases hy
  | some x =>
    rw [q] at hy; cases hy
    obtain ⟨h1, h2⟩ := List.getElem?_eq_some_iff.mp q
    have : ms.idxOf x = j := by rw [← h2]; exact nd.idxOf_getElem j h1
    rw [getD_of q]
    show (tk x, V.int (ms.idxOf x : Nat)) = _
    rw [this]
theorem RdrAt.num (r : RdrAt C H a sg ms f tg dx m st nu le sa la t) (nd : ms.Nodup) {x : List Nat} (h : x ∈ ms) : DGet H nu (.str (S x)) (some (.int (ms.idxOf x : Nat))) := .inl ⟨_, tk x, .inl r.hnu, rfl, by
  rw [numK_eq ms nd]; exact (valV_map' (key := tk) (f := fun x => V.int (ms.idxOf x : Nat)) (fun _ _ => tk_inj) h).symm⟩
end
theorem rdr_no {sg : List Nat} {m : Addr} {f : List Nat} {st nu le : Addr} {t : List (Str × V)} {n : Str} (ht : TailOk t) (h : (n == ("signs" : Str)) = false ∧ (n == ("marks" : Str)) = false ∧ (n == ("first" : Str)) = false ∧ (n == ("steps" : Str)) = false ∧ (n == ("_numbers" : Str)) = false ∧ (n == ("_leads" : Str)) = false ∧ (n == ("_columns" : Str)) = false) : (rdF sg m f st nu le t).lookup n = none := by
  unfold rdF
  rw [List.lookup_cons, h.1, List.lookup_cons, h.2.1, List.lookup_cons, h.2.2.1, List.lookup_cons, h.2.2.2.1, List.lookup_cons, h.2.2.2.2.1, List.lookup_cons, h.2.2.2.2.2.1]
  rcases ht with rfl | ⟨co, rfl⟩
  · rfl
  · rw [List.lookup_cons, h.2.2.2.2.2.2]; rfl
section
variable {P : Program} {w : World} {K : PySem.W.Frag} {mg : Str → Option Value} {base : Heap}
abbrev s_m_num : Stmt := inClass (top 19) 4
abbrev n_m_num : List Str := ["self", "mark"]
theorem sc_m_num : FnScope n_m_num ["self", "mark"] (fnScope s_m_num) := fnScope_by (by decide +kernel)
def spMNum (C : Addr) : Sp := fun vs H Q _ => ∃ (a : Addr) (sg : List Nat) (ms : List (List Nat)) (f : List Nat) (tg : List Nat → Nat → List Nat) (x : List Nat), vs = [.ref a, .str (S x)] ∧ Rdr0 C H a sg ms f tg ∧ ms.Nodup ∧ x ∈ ms ∧ Q (.int (ms.idxOf x : Nat)) H
theorem ok_mnum {C : Addr} (T : BT mg) (CH : CR K C) {f : Addr} {fd : FuncData} (me : Meth K C "number_of" f) (F : C8.Fun K "number_of" "Reader.number_of" s_m_num f fd) (b : Binds K fd ["self", "mark"] []) : Met P w K mg base 1 C "number_of" (spMNum C) [] := by
  refine met0 CH.cl me F b sc_m_num (fun vs H Q E h => ?_) (fun cdv A outer s H vs Q E hr h => ?_)
  · obtain ⟨a, sg, ms, f, tg, x, rfl, _⟩ := h; rfl
  · obtain ⟨a, sg, ms, f, tg, x, rfl, ⟨dx, m, st, nu, le, sa, la, t, ht, r⟩, hnd, hx, k⟩ := h
    refine ⟨_, (pss_one (ps_ret (pe_dget (hu_of hr) (fldK K (pv 0) rfl) (pv 1) (fun _ _ => rfl)))
      ), ?_⟩
    refine ⟨_, rfl, a, C, dx, _, _, rfl, r.ha, CH.cl, CH.nN, rl_numbers, ?_⟩
    exact ⟨_, rfl, _, _, rfl, r.num hnd hx, k⟩
abbrev s_table : Stmt := top 22
abbrev n_table : List Str := ["reader", "targets", "mark"]
theorem sc_table : FnScope n_table ["reader"] (fnScope s_table) := fnScope_by (by decide +kernel)
abbrev ncs_table : Scope := relS (outS (ofRet ((fnBody s_table).getD 0 (.Pass ⟨0, 0, 0, 0⟩)))) (fnScope s_table)
def tabI (sg : List Nat) (ms : List (List Nat)) (tg : List Nat → Nat → List Nat) (x : List Nat) : List V := sg.map fun c => V.int (ms.idxOf (tg x c) : Nat)
def spTable (C : Addr) : Sp := fun vs H Q _ => ∃ (a : Addr) (sg : List Nat) (ms : List (List Nat)) (f : List Nat) (tg : List Nat → Nat → List Nat), vs = [.ref a] ∧ Rdr0 C H a sg ms f tg ∧ Good sg ms f tg ∧
  ∀ (p : Addr) (ra : List Nat → Addr) (H' : Hp), Same H H' → H p = none → H' p = some (.lst (ms.map fun x => .ref (ra x))) → (∀ x ∈ ms, H' (ra x) = some (.lst (tabI sg ms tg x))) → Q (.ref p) H'
theorem ok_table {C : Addr} (T : BT mg) (CH : CR K C) (c_m_num : Met P w K mg base 1 C "number_of" (spMNum C) []) {f : Addr} {fd : FuncData} (F : Def K mg "table_of" s_table f fd) (b : Binds K fd ["reader"] []) : Cal P w K mg base 2 "table_of" (spTable C) [] := by
  refine cal0 F b .nil sc_table (fun vs H Q E h => ?_) (fun cdv A outer s H vs Q E hr h => ?_)
  · obtain ⟨a, sg, ms, f, tg, rfl, _⟩ := h; rfl
  · obtain ⟨a, sg, ms, f, tg, rfl, hrd, hgd, k⟩ := h
    obtain ⟨dx, m, st, nu, le, sa, la, t, ht, r⟩ := id hrd
    have h8 := hgd.h8
    refine ⟨_, (pss_one (ps_ret (pe_lc (own := [("targets", 1)]) rfl sc_table.nd (pi_tup (fldK K (pv 0) rfl)) (blkOk_by (N := n_table) (sc := fnScope s_table) (by decide +kernel)) (fun _ _ _ _ _ => (pg_name (i := 1) sc_table.nd rfl (.inl rfl))) (fun _ _ _ _ _ => pts_nil) (fun _ _ _ _ _ => (pe_lc (own := [("mark", 2)]) rfl sc_table.nd (pi_tupK K (pv 1)) (blkOk_by (N := n_table) (sc := ncs_table) (by decide +kernel)) (fun _ _ _ _ _ => (pg_name (i := 2) sc_table.nd rfl (.inl rfl))) (fun _ _ _ _ _ => pts_nil) (fun _ _ _ _ _ => (pe_mt c_m_num hr (by decide) (pv 0) (pa_cons (pv 2) pa_nil)))))))
      ), ?_⟩
    refine ⟨_, rfl, a, C, dx, _, _, rfl, r.ha, CH.cl, CH.nT, rl_steps, ?_⟩
    refine ⟨st, rfl, ⟨_, SqT.of r.hst⟩, fun D hD => ?_⟩
    refine lc_keepH keep_same (walk_tup (K := K) (a := st) (xs := ms.map fun x => V.ref (sa x))) hD (by rw [List.length_map]; exact small1000 (by omega)) (fun j y H => ∃ t, y = .ref t ∧ t ≠ D ∧ ∀ mm, ms[j]? = some mm → H t = some (.lst (tabI sg ms tg mm))) (fun H r1 => SqT.of (r1 _ _ r.hst))
      (fun _ _ _ _ _ r1 ⟨t, e, n, h⟩ => ⟨t, e, n, fun mm hm => r1 _ _ (h mm hm)⟩) (fun _ _ _ _ _ _ _ ⟨t, e, n, h⟩ => ⟨t, e, n, fun mm hm => by rw [upd_ne n]; exact h mm hm⟩) (fun i x H2 H2' acc R hi r2 hDa hy hR => ?_) (fun ys H2 hly hg r2 hDs => ?_)
    · obtain ⟨rfl, e⟩ := hy
      rw [List.getElem?_map] at e
      cases em : ms[i]? with
      | none => rw [em] at e; cases e
      | some mm =>
        rw [em] at e; cases e
        have hmem := List.mem_of_getElem? em
        have hsm := r2 _ _ (r.hsa mm hmem)
        refine ⟨rfl, ?_⟩
        refine ⟨_, rfl, sa mm, rfl, ⟨_, SqT.of hsm⟩, fun D2 hD2 => lc_keep keep_same (walk_tup (K := K) (a := sa mm) (xs := txs (sg.map (tg mm)))) hD2 (by rw [txs_len, List.length_map]; exact small1000 (by have := hgd.hsg.2.2.1; omega)) (fun j y => ∀ c, sg[j]? = some c → y = .int (ms.idxOf (tg mm c) : Nat)) (fun H3 r3 => SqT.of (r3 _ _ hsm)) (fun j z H3 H4 R2 hj r3 hy hR2 => ?_) (fun zs H3 hlz hgz r3 hDz => ?_)⟩
        · obtain ⟨rfl, e⟩ := hy
          obtain ⟨l, hl, rfl⟩ := txs_get e
          rw [List.getElem?_map] at hl
          cases ec : sg[j]? with
          | none => rw [ec] at hl; cases hl
          | some c =>
            rw [ec] at hl
            obtain rfl : tg mm c = l := Option.some.inj hl
            refine ⟨rfl, ?_⟩
            refine ⟨_, rfl, a, dx, _, rfl, (r2.trans r3) _ _ r.ha, rdr_no ht (by decide +kernel), _, rfl, ?_⟩
            exact ⟨a, sg, ms, f, tg, tg mm c, rfl, hrd.same (r2.trans r3), hgd.hnd, hgd.htg mm hmem c (List.mem_of_getElem? ec), hR2 _ _ (Same.refl _) fun c' h => by rw [Option.some.inj (ec.symm.trans h)]⟩
        · have ez : zs = tabI sg ms tg mm := by
            refine list_map (hlz.trans (by rw [txs_len, List.length_map])) fun j y c e1 e2 => hgz j y e1 c e2
          subst ez
          have nD : D2 ≠ D := fun e => by rw [e, hDa] at hD2; cases hD2
          exact hR _ _ r3 ⟨D2, rfl, nD, fun m2 h2 => by rw [em] at h2; cases h2; exact hDz⟩
    rw [List.length_map] at hly
    obtain ⟨ra, hra⟩ := fun_of (γ := Addr) hgd.hnd (P := fun j mm t => ys[j]? = some (V.ref t) ∧ H2 t = some (.lst (tabI sg ms tg mm))) fun j mm hj => by
      have hjl : j < ys.length := by rw [hly]; exact (List.getElem?_eq_some_iff.mp hj).1
      obtain ⟨t, e, _, h⟩ := hg j _ (List.getElem?_eq_getElem hjl)
      exact ⟨t, by rw [List.getElem?_eq_getElem hjl, e], h mm hj⟩
    have eys : ys = ms.map fun x => V.ref (ra x) := list_map hly fun j y x e1 e2 => by have := (hra j x e2).1; rw [e1] at this; exact Option.some.inj this
    subst eys
    exact k D ra H2 r2 hD hDs fun x hx => by obtain ⟨j, hj⟩ := List.getElem?_of_mem hx; exact (hra j x hj).2
abbrev s_cols : Stmt := top 23
abbrev n_cols : List Str := ["signs", "table", "at", "sign", "things"]
theorem sc_cols : FnScope n_cols ["signs", "table"] (fnScope s_cols) := fnScope_by (by decide +kernel)
abbrev ncs_cols : Scope := relS (outD (ofRet ((fnBody s_cols).getD 0 (.Pass ⟨0, 0, 0, 0⟩)))) (fnScope s_cols)
def spCols : Sp := fun vs H Q _ => ∃ (p : Addr) (sg : List Nat) (ms : List (List Nat)) (tg : List Nat → Nat → List Nat) (ra : List Nat → Addr), vs = [.str (S sg), .ref p] ∧ H p = some (.lst (ms.map fun x => .ref (ra x))) ∧ (∀ x ∈ ms, H (ra x) = some (.lst (tabI sg ms tg x))) ∧ ms.length ≤ 60 ∧ sg.length ≤ 3 ∧ sg.Nodup ∧
  ∀ (d : Addr) (ca : Nat → Addr) (H' : Hp), Same H H' → H d = none → ColAt H' d sg ms tg ca → Q (.ref d) H'
theorem ok_cols (T : BT mg) {f : Addr} {fd : FuncData} (F : Def K mg "columns_of" s_cols f fd) (b : Binds K fd ["signs", "table"] []) : Cal P w K mg base 1 "columns_of" spCols [] := by
  refine cal0 F b .nil sc_cols (fun vs H Q E h => ?_) (fun cdv A outer s H vs Q E hr h => ?_)
  · obtain ⟨p, sg, ms, tg, ra, rfl, _⟩ := h; rfl
  · obtain ⟨p, sg, ms, tg, ra, rfl, hp, hra, hm, hs3, hnd, k⟩ := h
    refine ⟨_, (pss_one (ps_ret (pe_dc (own := [("at", 2), ("sign", 3)]) rfl sc_cols.nd (pi_enumX (by rfl) T.m_enumerate (pa_cons (pv 0) pa_nil)) (blkOk_by (N := n_cols) (sc := fnScope s_cols) (by decide +kernel)) (fun _ _ _ _ _ => (tupK K 2 (pgs_cons (pg_name (i := 2) sc_cols.nd rfl (.inr rfl)) (pgs_cons (pg_name (i := 3) sc_cols.nd rfl (.inl rfl)) pgs_nil)))) (fun _ _ _ _ _ => pts_nil) (fun _ _ _ _ _ => (pv 3)) (fun _ _ _ _ _ => (pe_callTy (tupleK K) (by rfl) T.m_tuple PyProof.Rows.boot_tuple (pa_cons (pe_lc (own := [("things", 4)]) rfl sc_cols.nd (pi_listK K (pv 1)) (blkOk_by (N := n_cols) (sc := ncs_cols) (by decide +kernel)) (fun _ _ _ _ _ => (pg_name (i := 4) sc_cols.nd rfl (.inl rfl))) (fun _ _ _ _ _ => pts_nil) (fun _ _ _ _ _ => (pe_ix (ixl K) (pv 4) (pv 2) (fun _ _ => rfl)))) pa_nil)))))
      ), ?_⟩
    have hinj : ∀ i j, i < sg.length → j < i → tk [sg.getD j 0] ≠ tk [sg.getD i 0] := fun i j hi hj h => by
      have e := (List.cons.inj (tk_inj h)).1
      have hj2 : j < sg.length := by omega
      rw [List.getD_eq_getElem?_getD, List.getD_eq_getElem?_getD, List.getElem?_eq_getElem hi, List.getElem?_eq_getElem hj2] at e
      have e1 := hnd.idxOf_getElem i hi
      have e2 := hnd.idxOf_getElem j hj2
      rw [show sg[j] = sg[i] from e, e1] at e2
      omega
    have hget : ∀ {i c : Nat}, sg[i]? = some c → sg.getD i 0 = c := fun h => by rw [List.getD_eq_getElem?_getD, h]; rfl
    refine ⟨_, rfl, V.str (S sg), .txt (S sg), rfl, rfl, trivial, fun D hD => ?_⟩
    refine dc_keep keep_same (walk_enumX (K := K) (S := .txt (S sg)) (xs := sg.map fun c => V.str (S [c]))) hD (by rw [List.length_map]; exact small1000 (by omega)) (fun i => tk [sg.getD i 0]) (fun j y H => ∃ t, y = .ref t ∧ ∀ c, sg[j]? = some c → H t = some (.tup (colI ms tg c))) (fun H r => rfl) (fun i j hi hj => hinj i j (by rw [List.length_map] at hi; exact hi) hj)
      (fun _ _ _ _ _ r ⟨t, e, h⟩ => ⟨t, e, fun c hc => r _ _ (h c hc)⟩) (fun _ _ _ _ _ _ hDa ⟨t, e, h⟩ => ⟨t, e, fun c hc => by rw [upd_ne (ne_of (h c hc) hDa (by intro h; cases h))]; exact h c hc⟩) (fun i x H2 H3 acc R hi r hDa hy hR => ?_) (fun ys H2 hly hg r2 hDs => ?_)
    · obtain ⟨t, x1, x2, rfl, ht, rfl, e1, e2⟩ := hy
      obtain rfl : V.int (i : Nat) = x1 := Option.some.inj e1
      have e2 : (sg.map fun c => V.str (S [c]))[i]? = some x2 := e2
      rw [List.getElem?_map] at e2
      cases ec : sg[i]? with
      | none => rw [ec] at e2; cases e2
      | some c =>
        rw [ec] at e2
        obtain rfl : V.str (S [c]) = x2 := Option.some.inj e2
        have s3 : Same H2 (upd H2 t (.tup [.int (i : Nat), .str (S [c])])) := sm_new ht
        have ht3 : (upd H2 t (.tup [.int (i : Nat), .str (S [c])])) t = some (.tup [.int (i : Nat), .str (S [c])]) := upd_same
        generalize upd H2 t (.tup [.int (i : Nat), .str (S [c])]) = H3 at s3 ht3 ⊢
        refine ⟨t, _, rfl, .inl (.inl ht3), rfl, _, _, rfl, _, _, rfl, rfl, rfl, ?_⟩
        refine ⟨_, rfl, ?_⟩
        have hp3 := (r.trans s3) _ _ hp
        have hic : i < sg.length := (List.getElem?_eq_some_iff.mp ec).1
        refine ⟨_, rfl, p, rfl, ⟨_, SqL.of hp3⟩, fun D2 hD2 => lc_keep keep_same (walk_list (K := K) (a := p) (xs := ms.map fun x => V.ref (ra x))) hD2 (by rw [List.length_map]; exact small1000 (by omega)) (fun j y => ∀ mm, ms[j]? = some mm → y = .int (ms.idxOf (tg mm c) : Nat)) (fun H4 r4 => SqL.of (r4 _ _ hp3)) (fun j z H4 H5 R2 hj r4 hy hR2 => ?_) (fun zs H4 hlz hgz r4 hDz => ?_)⟩
        · obtain ⟨rfl, e⟩ := hy
          rw [List.getElem?_map] at e
          cases em : ms[j]? with
          | none => rw [em] at e; cases e
          | some mm =>
            rw [em] at e; cases e
            have hrow := ((r.trans s3).trans r4) _ _ (hra mm (List.mem_of_getElem? em))
            refine ⟨rfl, ?_⟩
            refine ⟨_, rfl, _, rfl, ra mm, tabI sg ms tg mm, (i : Nat), .int (ms.idxOf (tg mm c) : Nat), rfl, rfl, SqL.of hrow, at_of rfl (by unfold tabI; rw [List.getElem?_map, ec]; rfl), ?_⟩
            exact hR2 _ _ (Same.refl _) fun m2 h2 => by rw [Option.some.inj (em.symm.trans h2)]
        · have ez : zs = colI ms tg c := by
            unfold colI
            exact list_map (hlz.trans (by rw [List.length_map])) fun j y mm e1 e2 => hgz j y e1 mm e2
          subst ez
          refine nil1 ⟨D2, _, rfl, .inl ⟨SqL.of hDz, fun st hst => ?_⟩⟩
          rw [hget ec] at hR
          exact hR _ _ ((s3.trans r4).trans (sm_new hst)) ⟨st, rfl, fun c' hc' => by rw [Option.some.inj (hc'.symm.trans ec)]; exact upd_same⟩
    · rw [List.length_map] at hly hDs
      obtain ⟨ca, hca⟩ := fun_of (γ := Addr) hnd (P := fun j c t => ys[j]? = some (V.ref t) ∧ H2 t = some (.tup (colI ms tg c))) fun j c hj => by
        have hjl : j < ys.length := by rw [hly]; exact (List.getElem?_eq_some_iff.mp hj).1
        obtain ⟨t, e, h⟩ := hg j _ (List.getElem?_eq_getElem hjl)
        exact ⟨t, by rw [List.getElem?_eq_getElem hjl, e], h c hj⟩
      have eys : ys = sg.map fun c => V.ref (ca c) := list_map hly fun j y c e1 e2 => by have := (hca j c e2).1; rw [e1] at this; exact Option.some.inj this
      subst eys
      refine k D ca H2 r2 hD ⟨?_, fun c hc => by obtain ⟨j, hj⟩ := List.getElem?_of_mem hc; exact (hca j c hj).2⟩
      rw [hDs]
      have e : (sg.map fun c => V.ref (ca c)) = (List.range sg.length).map fun i => V.ref (ca (sg.getD i 0)) := by
        refine (list_of (by rw [List.length_map]) fun j y hy => ?_)
        rw [List.getElem?_map] at hy
        cases q : sg[j]? with
        | none => rw [q] at hy; cases hy
        | some x => rw [q] at hy; cases hy; rw [hget q]
      rw [e, zip_self_map (fun i => tk [sg.getD i 0])]
      congr 2
      symm
      unfold coK
      refine list_of (f := fun i => (tk [sg.getD i 0], V.ref (ca (sg.getD i 0)))) (by rw [List.length_map]) fun j y hy => ?_
      rw [List.getElem?_map] at hy
      cases q : sg[j]? with
      | none => rw [q] at hy; cases hy
      | some x => rw [q] at hy; cases hy; rw [hget q]
end
end Toy
set_option maxHeartbeats 4000000
namespace Toy
open PySem L2 C8 SX LX
local macro_rules | `(tactic| walk_at "c") => `(tactic| refine And.intro (by first | (show (0 : Int) < _; omega) | exact Or.inr ⟨by decide, by decide⟩ | exact Or.inl ⟨by decide, by decide⟩ | (exact ⟨by omega, by omega⟩)) ?_)
local macro_rules | `(tactic| walk_at "s1") => `(tactic| first | refine ⟨_, rfl, ?_⟩ | refine ⟨_, _, rfl, rfl, ?_⟩ | refine .inl ⟨_, rfl, ?_⟩ | walk_at "c")
local macro_rules | `(tactic| walk_at "s") => `(tactic| repeat (walk_at "s1"))
section
variable {P : Program} {w : World} {K : PySem.W.Frag} {mg : Str → Option Value} {base : Heap}
abbrev s_init : Stmt := inClass (top 19) 0
abbrev n_init : List Str := ["self", "signs", "marks", "first", "steps", "at", "mark", "targets"]
theorem sc_init : FnScope n_init ["self", "signs", "marks", "first", "steps"] (fnScope s_init) := fnScope_by (by decide +kernel)
def spInit (C : Addr) : Sp := fun vs H Q _ => ∃ (a dx q p : Addr) (b c d : Bool) (sg : List Nat) (ms : List (List Nat)) (f : List Nat) (tg : List Nat → Nat → List Nat) (pa : List Nat → Addr), vs = [.ref a, .str (S sg), .ref q, .str (S f), .ref p] ∧ H a = some (.ins C dx []) ∧
  H q = some (seqB b (txs ms)) ∧ H p = some (seqB c (ms.map fun x => .ref (pa x))) ∧ (∀ x ∈ ms, H (pa x) = some (seqB d (txs (sg.map (tg x))))) ∧ Good sg ms f tg ∧
  ∀ H', (∀ b o, b ≠ a → H b = some o → H' b = some o) → Rdr C H' a sg ms f tg → Q .non H'
theorem ok_init {C : Addr} (T : BT mg) (CH : CR K C) (c_issigns : Cal P w K mg base 3 "is_signs" spIsSigns []) (c_ismarks : Cal P w K mg base 4 "_is_marks" spIsMarks []) (c_issteps : Cal P w K mg base 3 "_is_steps" spIsSteps []) (c_table : Cal P w K mg base 2 "table_of" (spTable C) []) (c_cols : Cal P w K mg base 1 "columns_of" spCols []) (M : Mk K C f) (hm : mg "Reader" = some (.ref C)) {fd : FuncData} (F : C8.Fun K "__init__" "Reader.__init__" s_init f fd) (b : Binds K fd ["self", "signs", "marks", "first", "steps"] []) : Mak P w K mg base 5 "Reader" C (spInit C) [] := by
  refine mak0 M hm F b .nil sc_init (fun vs H Q E h => ?_) (fun cdv A outer s H vs Q E hr h => ?_)
  · obtain ⟨a, dx, q, p, b, c, d, sg, ms, f, tg, pa, rfl, _⟩ := h; rfl
  · obtain ⟨a, dx, q, p, b, c, d, sg, ms, f, tg, pa, rfl, ha, hq, hp, hpa, hgd, k⟩ := h
    refine ⟨_, (pss_cons (ps_if (pt_not (pt_val (pe_c c_issigns hr (by first | decide | omega) (by rfl) (pa_cons (pv 1) pa_nil)))) 
        (pss_one ps_never
        )
       pss_nil)
      (pss_cons (ps_if (pt_not (pt_val (pe_c c_ismarks hr (by first | decide | omega) (by rfl) (pa_cons (pv 2) pa_nil)))) 
        (pss_one ps_never
        )
       pss_nil)
      (pss_cons (ps_if (pt_cmpR (notInK K) (pv 3) (pv 2) rfl) 
        (pss_one ps_never
        )
       pss_nil)
      (pss_cons (ps_if (pt_not (pt_val (pe_c c_issteps hr (by first | decide | omega) (by rfl) (pa_cons (pv 4) (pa_cons (pv 1) (pa_cons (pv 2) pa_nil)))))) 
        (pss_one ps_never
        )
       pss_nil)
      (pss_cons (ps_fld (pv 0) (pv 1) rfl)
      (pss_cons (ps_fld (pv 0) (pe_callTy (tupleK K) (by rfl) T.m_tuple PyProof.Rows.boot_tuple (pa_cons (pv 2) pa_nil)) rfl)
      (pss_cons (ps_fld (pv 0) (pv 3) rfl)
      (pss_cons (ps_fld (pv 0) (pe_callTy (tupleK K) (by rfl) T.m_tuple PyProof.Rows.boot_tuple (pa_cons (pe_lc (own := [("targets", 7)]) rfl sc_init.nd (pi_seq (pv 4)) (blkOk_by (N := n_init) (sc := fnScope s_init) (by decide +kernel)) (fun _ _ _ _ _ => (pg_name (i := 7) sc_init.nd rfl (.inl rfl))) (fun _ _ _ _ _ => pts_nil) (fun _ _ _ _ _ => (pe_callTy (tupleK K) (by rfl) T.m_tuple PyProof.Rows.boot_tuple (pa_cons (pv 7) pa_nil)))) pa_nil)) rfl)
      (pss_cons (ps_fld (pv 0) (pe_dc (own := [("at", 5), ("mark", 6)]) rfl sc_init.nd (pi_enumX (by rfl) T.m_enumerate (pa_cons (fldK K (pv 0) rfl) pa_nil)) (blkOk_by (N := n_init) (sc := fnScope s_init) (by decide +kernel)) (fun _ _ _ _ _ => (tupK K 2 (pgs_cons (pg_name (i := 5) sc_init.nd rfl (.inl rfl)) (pgs_cons (pg_name (i := 6) sc_init.nd rfl (.inl rfl)) pgs_nil)))) (fun _ _ _ _ _ => pts_nil) (fun _ _ _ _ _ => (pv 6)) (fun _ _ _ _ _ => (pv 5))) rfl)
      (pss_cons (ps_fld (pv 0) (pe_dc (own := [("mark", 6), ("targets", 7)]) rfl sc_init.nd (pi_zipX (by rfl) T.m_zip (pa_cons (fldK K (pv 0) rfl) (pa_cons (fldK K (pv 0) rfl) pa_nil))) (blkOk_by (N := n_init) (sc := fnScope s_init) (by decide +kernel)) (fun _ _ _ _ _ => (tupK K 2 (pgs_cons (pg_name (i := 6) sc_init.nd rfl (.inl rfl)) (pgs_cons (pg_name (i := 7) sc_init.nd rfl (.inl rfl)) pgs_nil)))) (fun _ _ _ _ _ => pts_nil) (fun _ _ _ _ _ => (pv 6)) (fun _ _ _ _ _ => (dictZipK K rfl (by rfl) T.m_dict (by rfl) T.m_zip (pa_cons (pv 1) (pa_cons (pv 7) pa_nil))))) rfl)
      (pss_one (ps_fld (pv 0) (pe_c c_cols hr (by first | decide | omega) (by rfl) (pa_cons (pv 1) (pa_cons (pe_c c_table hr (by first | decide | omega) (by rfl) (pa_cons (pv 0) pa_nil)) pa_nil))) rfl)
      ))))))))))), ?_⟩
    refine ⟨_, rfl, sg, rfl, hgd.hsg, fun H1 s1 => ?_⟩
    refine ⟨true, rfl, iteN rfl ?_⟩
    refine ⟨_, rfl, q, b, ms, rfl, s1 _ _ hq, hgd.h1, by have := hgd.h8; omega, hgd.hnd, hgd.hnm, fun H2 s2 => ?_⟩
    refine ⟨true, rfl, iteN rfl ?_⟩
    have s12 := s1.trans s2
    refine ⟨_, rfl, _, rfl, q, txs ms, rfl, (all_of hq s12).or, rfl, flat_txs _, _, rfl, ?_⟩
    refine iteN (by rw [inV_txs, decide_eq_true hgd.hf]; rfl) ?_
    have hpa2 : ∀ (i : Nat) (x : Addr) (ts : List (List Nat)), (ms.map pa)[i]? = some x → (ms.map fun m => sg.map (tg m))[i]? = some ts → H2 x = some (seqB d (txs ts)) ∧ ts.length = sg.length ∧ ∀ t ∈ ts, t ∈ ms := fun i x ts e1 e2 => by
      rw [List.getElem?_map] at e1 e2
      cases e : ms[i]? with
      | none => rw [e] at e1; cases e1
      | some m =>
        rw [e] at e1 e2
        cases e1; cases e2
        have hmm := List.mem_of_getElem? e
        exact ⟨s12 _ _ (hpa m hmm), by rw [List.length_map], fun t ht => let ⟨c, hc, e⟩ := List.mem_map.mp ht; e ▸ hgd.htg m hmm c hc⟩
    refine ⟨_, rfl, _, rfl, _, rfl, p, q, c, d, b, ms.map pa, ms.map fun m => sg.map (tg m), ms, sg, rfl, by rw [List.map_map]; exact s12 _ _ hp, s12 _ _ hq, hgd.hsg.2.2.1, by have := hgd.h8; omega, by rw [List.length_map], by rw [List.length_map, List.length_map], hpa2, fun H3 s3 => ?_⟩
    refine ⟨true, rfl, iteN rfl ?_⟩
    have s13 := s12.trans s3
    have ha3 := s13 _ _ ha
    refine ⟨_, rfl, _, rfl, a, C, dx, [], rfl, ha3, CH.cl, CH.nS, (by show 0 < 1000; decide), ?_⟩
    have nqa : q ≠ a := ne_of (s13 _ _ hq) ha3 (by cases b <;> (intro h; cases h))
    have npa : p ≠ a := ne_of (s13 _ _ hp) ha3 (by cases c <;> (intro h; cases h))
    generalize hH4 : upd H3 a (.ins C dx (putF ("signs" : Str) (.str (S sg)) [])) = H4
    have k4 : ∀ x o, x ≠ a → H3 x = some o → H4 x = some o := fun x o n e => by rw [← hH4, upd_ne n]; exact e
    have ha4 : H4 a = some (.ins C dx [("signs", .str (S sg))]) := by rw [← hH4, upd_same]; rfl
    clear hH4
    unfold tSeq
    dsimp only
    unfold sFld
    refine tCB_tup (i := 2) rfl (k4 _ _ nqa (s13 _ _ hq)) fun m H5 s5 hm5 hmq hmn => ?_
    have ha5 := s5 _ _ ha4
    refine ⟨_, rfl, a, C, dx, _, rfl, ha5, CH.cl, CH.nM, (by show 1 < 1000; decide), ?_⟩
    rw [pf2]
    have nma : m ≠ a := ne_of hm5 ha5 (by intro h; cases h)
    generalize hH6 : upd H5 a (.ins C dx [("signs", .str (S sg)), ("marks", .ref m)]) = H6
    have k6 : ∀ x o, x ≠ a → H3 x = some o → H6 x = some o := fun x o n e => by rw [← hH6, upd_ne n]; exact s5 _ _ (k4 _ _ n e)
    have hm6 : H6 m = some (.tup (txs ms)) := by rw [← hH6, upd_ne nma]; exact hm5
    have ha6 : H6 a = some (.ins C dx [("signs", .str (S sg)), ("marks", .ref m)]) := by rw [← hH6, upd_same]
    clear hmq hmn
    clear hH6 hm5 ha5 s5 k4 ha4 H5 H4
    refine ⟨_, rfl, _, rfl, a, C, dx, _, rfl, ha6, CH.cl, CH.nF, (by show 2 < 1000; decide), ?_⟩
    rw [pf3]
    generalize hH7 : upd H6 a (.ins C dx [("signs", .str (S sg)), ("marks", .ref m), ("first", .str (S f))]) = H7
    have k7 : ∀ x o, x ≠ a → H3 x = some o → H7 x = some o := fun x o n e => by rw [← hH7, upd_ne n]; exact k6 _ _ n e
    have hm7 : H7 m = some (.tup (txs ms)) := by rw [← hH7, upd_ne nma]; exact hm6
    have ha7 : H7 a = some (.ins C dx [("signs", .str (S sg)), ("marks", .ref m), ("first", .str (S f))]) := by rw [← hH7, upd_same]
    clear hH7 hm6 ha6 k6 H6
    have hp7 := k7 _ _ npa (s13 _ _ hp)
    have hpa7 : ∀ x ∈ ms, H7 (pa x) = some (seqB d (txs (sg.map (tg x)))) := fun x hx => k7 _ _ (ne_of (s13 _ _ (hpa x hx)) ha3 (by cases d <;> (intro h; cases h))) (s13 _ _ (hpa x hx))
    have hsgn : sg.Nodup := hgd.hsg.1.imp fun h => by omega
    have h8 := hgd.h8
    refine ⟨_, rfl, p, c, _, rfl, SqB.of hp7, fun D hD => lc_keepH keep_same (walk_seq (K := K) (b := c) (a := p) (xs := ms.map fun x => V.ref (pa x))) hD (by rw [List.length_map]; exact small1000 (by omega)) (fun j y H => ∃ t, y = .ref t ∧ ∀ mm, ms[j]? = some mm → H t = some (.tup (txs (sg.map (tg mm))))) (fun H r => SqB.of (r _ _ hp7))
      (fun _ _ _ _ _ r ⟨t, e, h⟩ => ⟨t, e, fun mm hm => r _ _ (h mm hm)⟩) (fun _ _ _ _ _ _ hDa ⟨t, e, h⟩ => ⟨t, e, fun mm hm => by rw [upd_ne (ne_of (h mm hm) hDa (by intro h; cases h))]; exact h mm hm⟩) (fun i x H8 H8' acc R hi r hDa hy hR => ?_) (fun ys H8 hly hg r8 hDs => ?_)⟩
    · obtain ⟨rfl, e⟩ := hy
      rw [List.getElem?_map] at e
      cases em : ms[i]? with
      | none => rw [em] at e; cases e
      | some mm =>
        rw [em] at e; cases e
        refine ⟨rfl, ?_⟩
        refine ⟨_, rfl, pa mm, _, rfl, tupA (Q := R) (r _ _ (hpa7 mm (List.mem_of_getElem? em))) fun l H9 s9 hl9 _ _ => hR _ _ s9 ⟨l, rfl, fun m2 h2 => by rw [em] at h2; cases h2; exact hl9⟩⟩
    rw [List.length_map] at hly
    obtain ⟨sa, hsa⟩ := fun_of (γ := Addr) hgd.hnd (P := fun j mm t => ys[j]? = some (V.ref t) ∧ H8 t = some (.tup (txs (sg.map (tg mm))))) fun j mm hj => by
      have hjl : j < ys.length := by rw [hly]; exact (List.getElem?_eq_some_iff.mp hj).1
      obtain ⟨t, e, h⟩ := hg j _ (List.getElem?_eq_getElem hjl)
      exact ⟨t, by rw [List.getElem?_eq_getElem hjl, e], h mm hj⟩
    have eys : ys = ms.map fun x => V.ref (sa x) := list_map hly fun j y x e1 e2 => by have := (hsa j x e2).1; rw [e1] at this; exact Option.some.inj this
    have hsa8 : ∀ x ∈ ms, H8 (sa x) = some (.tup (txs (sg.map (tg x)))) := fun x hx => by obtain ⟨j, hj⟩ := List.getElem?_of_mem hx; exact (hsa j x hj).2
    clear hsa
    subst eys
    refine nil1 ⟨D, _, rfl, .inl ⟨SqL.of hDs, fun st hst => ?_⟩⟩
    have ha8 := r8 _ _ ha7
    have nsta : st ≠ a := (ne_of_none ha8 hst).symm
    refine ⟨_, rfl, a, C, dx, _, rfl, (by rw [upd_ne nsta.symm]; exact ha8), CH.cl, CH.nT, (by show 3 < 1000; decide), ?_⟩
    rw [pf4]
    generalize hH9 : upd (upd H8 st (.tup (ms.map fun x => V.ref (sa x)))) a (.ins C dx [("signs", .str (S sg)), ("marks", .ref m), ("first", .str (S f)), ("steps", .ref st)]) = H9
    have k9 : ∀ x o, x ≠ a → H8 x = some o → H9 x = some o := fun x o n e => by rw [← hH9, upd_ne n, upd_ne (ne_of_none e hst)]; exact e
    have hm9 : H9 m = some (.tup (txs ms)) := k9 _ _ nma (r8 _ _ hm7)
    have hst9 : H9 st = some (.tup (ms.map fun x => V.ref (sa x))) := by rw [← hH9, upd_ne nsta, upd_same]
    have hsa9 : ∀ x ∈ ms, H9 (sa x) = some (.tup (txs (sg.map (tg x)))) := fun x hx => k9 _ _ (ne_of (hsa8 x hx) ha8 (by intro h; cases h)) (hsa8 x hx)
    have ha9 : H9 a = some (.ins C dx [("signs", .str (S sg)), ("marks", .ref m), ("first", .str (S f)), ("steps", .ref st)]) := by rw [← hH9, upd_same]
    have kk9 : ∀ x o, x ≠ a → H3 x = some o → H9 x = some o := fun x o n e => k9 _ _ n (r8 _ _ (k7 _ _ n e))
    clear hH9 k9 hsa8 ha8 hst hDs hly hg r8 hD hpa7 hp7 k7 hm7 ha7
    refine ⟨_, rfl, a, C, dx, _, _, rfl, ha9, CH.cl, CH.nM, (show _ = some (V.ref m) by rfl), ?_⟩
    refine nil1 ⟨.ref m, .tup m, rfl, rfl, ⟨_, SqT.of hm9⟩, fun D2 hD2 => ?_⟩
    refine dc_keep keep_same (walk_enumX (K := K) (S := .tup m) (xs := txs ms)) hD2 (by rw [txs_len]; exact small1000 (by omega)) (fun i => tk (ms.getD i [])) (fun j y H => y = .int (j : Nat)) (fun H r => SqT.of (r _ _ hm9)) (fun i j hi hj => key_inj hgd.hnd i j (by rw [txs_len] at hi; exact hi) hj)
      (fun _ _ _ _ _ _ h => h) (fun _ _ _ _ _ _ _ h => h) (fun i x H10 H11 acc R hi r hDa hy hR => ?_) (fun ys H10 hly hg r10 hDs => ?_)
    · obtain ⟨t, x1, x2, rfl, ht, rfl, e1, e2⟩ := hy
      obtain rfl : V.int (i : Nat) = x1 := Option.some.inj e1
      obtain ⟨mm, hmm, rfl⟩ := txs_get (show (txs ms)[i]? = some x2 from e2)
      refine ⟨t, _, rfl, .inl (.inl upd_same), rfl, _, _, rfl, _, _, rfl, rfl, rfl, ?_⟩
      refine ⟨_, rfl, _, rfl, ?_⟩
      rw [getD_of hmm] at hR
      exact hR _ _ (sm_new ht) rfl
    have eys : ys = (List.range ms.length).map fun j => V.int (j : Nat) := list_of (by rw [hly, txs_len]) fun j y e => hg j y e
    subst eys
    have hnu10 : H10 D2 = some (.dK (numK ms)) := by
      rw [hDs, txs_len, zip_self_map (fun i => tk (ms.getD i []))]; rfl
    clear hDs hg hly
    have ha10 := r10 _ _ ha9
    have nD2a : D2 ≠ a := ne_of hnu10 ha10 (by intro h; cases h)
    refine ⟨_, rfl, a, C, dx, _, rfl, ha10, CH.cl, CH.nN, (by show 4 < 1000; decide), ?_⟩
    rw [pf5]
    generalize hH11 : upd H10 a (.ins C dx [("signs", .str (S sg)), ("marks", .ref m), ("first", .str (S f)), ("steps", .ref st), ("_numbers", .ref D2)]) = H11
    have k11 : ∀ x o, x ≠ a → H10 x = some o → H11 x = some o := fun x o n e => by rw [← hH11, upd_ne n]; exact e
    have hm11 := k11 _ _ nma (r10 _ _ hm9)
    have hst11 := k11 _ _ nsta (r10 _ _ hst9)
    have hsa11 : ∀ x ∈ ms, H11 (sa x) = some (.tup (txs (sg.map (tg x)))) := fun x hx => k11 _ _ (ne_of (hsa9 x hx) ha9 (by intro h; cases h)) (r10 _ _ (hsa9 x hx))
    have hnu11 := k11 _ _ nD2a hnu10
    have ha11 : H11 a = some (.ins C dx [("signs", .str (S sg)), ("marks", .ref m), ("first", .str (S f)), ("steps", .ref st), ("_numbers", .ref D2)]) := by rw [← hH11, upd_same]
    have kk11 : ∀ x o, x ≠ a → H3 x = some o → H11 x = some o := fun x o n e => k11 _ _ n (r10 _ _ (kk9 _ _ n e))
    clear hH11 k11 hnu10 ha10 r10 hD2 hm9 hst9 hsa9 ha9 kk9
    refine ⟨_, rfl, a, C, dx, _, _, rfl, ha11, CH.cl, CH.nM, (show _ = some (V.ref m) by rfl), ?_⟩
    refine ⟨_, rfl, a, C, dx, _, _, rfl, ha11, CH.cl, CH.nT, (show _ = some (V.ref st) by rfl), ?_⟩
    refine nil1 ⟨.ref m, .ref st, .tup m, .tup st, rfl, rfl, rfl, ⟨_, SqT.of hm11⟩, ⟨_, SqT.of hst11⟩, fun D3 hD3 => ?_⟩
    refine dc_keep (n := min (txs ms).length (ms.map fun x => V.ref (sa x)).length) keep_same (walk_zipX (K := K) (S1 := .tup m) (S2 := .tup st) (xs := txs ms) (ys := ms.map fun x => V.ref (sa x))) hD3 (Nat.lt_of_le_of_lt (Nat.min_le_left _ _) (by rw [txs_len]; exact small1000 (by omega))) (fun i => tk (ms.getD i [])) (fun j y H => ∃ t, y = .ref t ∧ t ≠ D3 ∧ ∀ mm, ms[j]? = some mm → H t = some (.dK (laK sg (tg mm)))) (fun H r => ⟨SqT.of (r _ _ hm11), SqT.of (r _ _ hst11)⟩)
      (fun i j hi hj => key_inj hgd.hnd i j (by rw [txs_len] at hi; exact Nat.lt_of_lt_of_le hi (Nat.min_le_left _ _)) hj)
      (fun _ _ _ _ _ r ⟨t, e, n, h⟩ => ⟨t, e, n, fun mm hm => r _ _ (h mm hm)⟩) (fun _ _ _ _ _ _ _ ⟨t, e, n, h⟩ => ⟨t, e, n, fun mm hm => by rw [upd_ne n]; exact h mm hm⟩) (fun i x H12 H13 acc R hi r hDa hy hR => ?_) (fun ys H12 hly hg r12 hDs => ?_)
    · obtain ⟨t, x1, x2, rfl, ht, rfl, e1, e2⟩ := hy
      obtain ⟨mm, hmm, rfl⟩ := txs_get (show (txs ms)[i]? = some x1 from e1)
      have e2 : (ms.map fun x => V.ref (sa x))[i]? = some x2 := e2
      rw [List.getElem?_map, hmm] at e2
      obtain rfl : V.ref (sa mm) = x2 := Option.some.inj e2
      have hmem := List.mem_of_getElem? hmm
      refine ⟨t, _, rfl, .inl (.inl upd_same), rfl, _, _, rfl, _, _, rfl, rfl, rfl, ?_⟩
      refine ⟨_, rfl, _, rfl, _, rfl, sg, sa mm, txs (sg.map (tg mm)), rfl, SqT.of ((sm_new ht) _ _ (r _ _ (hsa11 mm hmem))), by rw [txs_len, List.length_map], by have := hgd.hsg.2.2.1; omega, fun d2 hd2 => ?_⟩
      rw [la_dict hsgn]
      have hne : d2 ≠ D3 := fun e => by rw [e, upd_ne (ne_of_none hDa ht)] at hd2; rw [hDa] at hd2; cases hd2
      rw [getD_of hmm] at hR
      exact hR _ _ (sm_put' (sm_new ht) hd2) ⟨d2, rfl, hne, fun m2 h2 => by rw [hmm] at h2; cases h2; exact upd_same⟩
    have hly2 : ys.length = ms.length := by rw [hly, txs_len, List.length_map, Nat.min_self]
    obtain ⟨la, hla⟩ := fun_of (γ := Addr) hgd.hnd (P := fun j mm t => ys[j]? = some (V.ref t) ∧ H12 t = some (.dK (laK sg (tg mm)))) fun j mm hj => by
      have hjl : j < ys.length := by rw [hly2]; exact (List.getElem?_eq_some_iff.mp hj).1
      obtain ⟨t, e, _, h⟩ := hg j _ (List.getElem?_eq_getElem hjl)
      exact ⟨t, by rw [List.getElem?_eq_getElem hjl, e], h mm hj⟩
    have eys : ys = ms.map fun x => V.ref (la x) := list_map hly2 fun j y x e1 e2 => by have := (hla j x e2).1; rw [e1] at this; exact Option.some.inj this
    have hla12 : ∀ x ∈ ms, H12 (la x) = some (.dK (laK sg (tg x))) := fun x hx => by obtain ⟨j, hj⟩ := List.getElem?_of_mem hx; exact (hla j x hj).2
    subst eys
    have hle12 : H12 D3 = some (.dK (leK ms la)) := by
      rw [hDs, txs_len, List.length_map, Nat.min_self]
      have e : (ms.map fun x => V.ref (la x)) = (List.range ms.length).map fun i => V.ref (la (ms.getD i [])) := by
        refine (list_of (by rw [List.length_map]) fun j y hy => ?_)
        rw [List.getElem?_map] at hy
        cases q : ms[j]? with
        | none => rw [q] at hy; cases hy
        | some x => rw [q] at hy; cases hy; rw [getD_of q]
      rw [e, zip_self_map (fun i => tk (ms.getD i []))]
      congr 2
      symm
      unfold leK
      refine list_of (f := fun i => (tk (ms.getD i []), V.ref (la (ms.getD i [])))) (by rw [List.length_map]) fun j y hy => ?_
      rw [List.getElem?_map] at hy
      cases q : ms[j]? with
      | none => rw [q] at hy; cases hy
      | some x => rw [q] at hy; cases hy; rw [getD_of q]
    have ha12 := r12 _ _ ha11
    refine ⟨_, rfl, a, C, dx, _, rfl, ha12, CH.cl, CH.nL, (by show 5 < 1000; decide), ?_⟩
    rw [pf6]
    have hR0 : RdrAt C (upd H12 a (.ins C dx (rdF sg m f st D2 D3 []))) a sg ms f tg dx m st D2 D3 sa la [] := by
      refine ⟨upd_same, ?_, ?_, fun x hx => ?_, ?_, ?_, fun x hx => ?_⟩
      · rw [upd_ne nma]; exact r12 _ _ hm11
      · rw [upd_ne nsta]; exact r12 _ _ hst11
      · rw [upd_ne (ne_of (hsa11 x hx) ha11 (by intro h; cases h))]; exact r12 _ _ (hsa11 x hx)
      · rw [upd_ne nD2a]; exact r12 _ _ hnu11
      · rw [upd_ne (ne_of hle12 ha12 (by intro h; cases h))]; exact hle12
      · rw [upd_ne (ne_of (hla12 x hx) ha12 (by intro h; cases h))]; exact hla12 x hx
    have kk13 : ∀ x o, x ≠ a → H3 x = some o → (upd H12 a (.ins C dx (rdF sg m f st D2 D3 []))) x = some o := fun x o n e => by rw [upd_ne n]; exact r12 _ _ (kk11 _ _ n e)
    show (fun H13 => _) (upd H12 a (.ins C dx (rdF sg m f st D2 D3 [])))
    generalize upd H12 a (.ins C dx (rdF sg m f st D2 D3 [])) = H13 at hR0 kk13 ⊢
    refine ⟨_, rfl, _, rfl, a, sg, ms, f, tg, rfl, ⟨dx, m, st, D2, D3, sa, la, [], .inl rfl, hR0⟩, hgd, fun tb ra H14 s14 n14 h14 hra => ?_⟩
    refine ⟨tb, sg, ms, tg, ra, rfl, h14, hra, by omega, hgd.hsg.2.2.1, hsgn, fun co ca H15 s15 n15 hcol => ?_⟩
    have hR2 := hR0.same (s14.trans s15)
    refine ⟨_, rfl, a, C, dx, _, rfl, hR2.ha, CH.cl, CH.nC, (by show 6 < 1000; decide), ?_⟩
    rw [show putF ("_columns" : Str) (V.ref co) (rdF sg m f st D2 D3 []) = rdF sg m f st D2 D3 [("_columns", .ref co)] from pf7 _ _ _ _ _ _ _]
    have nin : ∀ {x : Addr} {o : HO}, H15 x = some o → (∀ c d fs, o ≠ .ins c d fs) → x ≠ a := fun e n z => by rw [z, hR2.ha] at e; exact n _ _ _ (Option.some.inj e).symm
    refine k _ (fun x o n e => by rw [upd_ne n]; exact (s14.trans s15) _ _ (kk13 _ _ n (s13 _ _ e))) ⟨dx, m, st, D2, D3, sa, la, co, ca, ⟨upd_same, ?_, ?_, fun x hx => ?_, ?_, ?_, fun x hx => ?_⟩, ⟨?_, fun c hc => ?_⟩⟩
    · rw [upd_ne (nin hR2.hm (by intro _ _ _ h; cases h))]; exact hR2.hm
    · rw [upd_ne (nin hR2.hst (by intro _ _ _ h; cases h))]; exact hR2.hst
    · rw [upd_ne (nin (hR2.hsa x hx) (by intro _ _ _ h; cases h))]; exact hR2.hsa x hx
    · rw [upd_ne (nin hR2.hnu (by intro _ _ _ h; cases h))]; exact hR2.hnu
    · rw [upd_ne (nin hR2.hle (by intro _ _ _ h; cases h))]; exact hR2.hle
    · rw [upd_ne (nin (hR2.hla x hx) (by intro _ _ _ h; cases h))]; exact hR2.hla x hx
    · rw [upd_ne (nin hcol.hco (by intro _ _ _ h; cases h))]; exact hcol.hco
    · rw [upd_ne (nin (hcol.hca c hc) (by intro _ _ _ h; cases h))]; exact hcol.hca c hc
end
end Toy
set_option maxHeartbeats 2000000
namespace Toy
open PySem L2 C8 SX LX
abbrev WT := List (List Nat × List Nat)
def inT (lead : List Nat → Nat → List Nat) (t r : List Nat) : Nat → List Nat → WT → WT
  | _, [], L => L
  | i, c :: cs, L => if lead t i ∈ L.map (·.1) then inT lead t r (i + 1) cs L else inT lead t r (i + 1) cs (L ++ [(lead t i, r ++ [c])])
def outT (lead : List Nat → Nat → List Nat) (sg : List Nat) : Nat → Nat → WT → WT
  | 0, _, L => L
  | n + 1, at_, L => match L[at_]? with
    | none => L
    | some (t, r) => outT lead sg n (at_ + 1) (inT lead t r 0 sg L)
def walkT (lead : List Nat → Nat → List Nat) (sg : List Nat) (b : List Nat) : WT := outT lead sg 257 0 [(b, [])]
theorem outT_some {lead : List Nat → Nat → List Nat} {sg : List Nat} {n at_ : Nat} {L : WT} {t r : List Nat} (h : L[at_]? = some (t, r)) : outT lead sg (n + 1) at_ L = outT lead sg n (at_ + 1) (inT lead t r 0 sg L) := by
  show (match L[at_]? with | none => L | some (t, r) => outT lead sg n (at_ + 1) (inT lead t r 0 sg L)) = _
  rw [h]
theorem outT_none {lead : List Nat → Nat → List Nat} {sg : List Nat} {n at_ : Nat} {L : WT} (h : L.length ≤ at_) : outT lead sg n at_ L = L := by
  cases n with
  | zero => rfl
  | succ n =>
    show (match L[at_]? with | none => L | some (t, r) => outT lead sg n (at_ + 1) (inT lead t r 0 sg L)) = _
    rw [List.getElem?_eq_none h]
theorem inT_in {lead : List Nat → Nat → List Nat} {t r : List Nat} {i c : Nat} {cs : List Nat} {L : WT} (h : lead t i ∈ L.map (·.1)) : inT lead t r i (c :: cs) L = inT lead t r (i + 1) cs L := by
  show (if lead t i ∈ L.map (·.1) then _ else _) = _
  rw [if_pos h]
theorem inT_new {lead : List Nat → Nat → List Nat} {t r : List Nat} {i c : Nat} {cs : List Nat} {L : WT} (h : lead t i ∉ L.map (·.1)) : inT lead t r i (c :: cs) L = inT lead t r (i + 1) cs (L ++ [(lead t i, r ++ [c])]) := by
  show (if lead t i ∈ L.map (·.1) then _ else _) = _
  rw [if_neg h]
def allT (n : Nat) : Nat → List (List Nat)
  | 0 => [[]]
  | k + 1 => (List.range n).flatMap fun x => (allT n k).map fun l => x :: l
theorem mem_allT {n : Nat} : ∀ {l : List Nat}, (∀ x ∈ l, x < n) → l ∈ allT n l.length
  | [], _ => List.mem_cons_self
  | x :: l, h => by
    show x :: l ∈ (List.range n).flatMap fun x => (allT n l.length).map fun l => x :: l
    exact List.mem_flatMap.mpr ⟨x, List.mem_range.mpr (h x List.mem_cons_self), List.mem_map.mpr ⟨l, mem_allT fun y hy => h y (List.mem_cons_of_mem _ hy), rfl⟩⟩
def Tn (n : Nat) (t : List Nat) : Prop := t.length = n ∧ ∀ x ∈ t, x < n
theorem nodup_sub {α : Type} [BEq α] [LawfulBEq α] : ∀ (U l : List α), l.Nodup → (∀ x ∈ l, x ∈ U) → l.length ≤ U.length
  | [], l, _, h => by
    cases l with
    | nil => exact Nat.le_refl _
    | cons a l => exact absurd (h a List.mem_cons_self) (by intro z; cases z)
  | u :: U, l, nd, h => by
    have := nodup_sub U (l.erase u) (nd.erase u) fun x hx => by
      have h1 := (nd.mem_erase_iff).mp hx
      rcases List.mem_cons.mp (h x h1.2) with z | z
      · exact absurd z h1.1
      · exact z
    have e := List.length_erase (a := u) (l := l)
    rw [List.length_cons]
    split at e <;> omega
theorem allT_len : (allT 0 0).length ≤ 256 ∧ (allT 1 1).length ≤ 256 ∧ (allT 2 2).length ≤ 256 ∧ (allT 3 3).length ≤ 256 ∧ (allT 4 4).length ≤ 256 := by decide +kernel
structure TOk (n : Nat) (L : WT) : Prop where
  nd : (L.map (·.1)).Nodup
  mem : ∀ p ∈ L, Tn n p.1
  rl : ∀ p ∈ L, p.2.length < L.length
theorem TOk.len {n : Nat} (hn : n ≤ 4) {L : WT} (h : TOk n L) : L.length ≤ 256 := by
  have h1 := nodup_sub (allT n n) (L.map (·.1)) h.nd fun x hx => by
    obtain ⟨p, hp, rfl⟩ := List.mem_map.mp hx
    obtain ⟨e, f⟩ := h.mem p hp
    have := mem_allT (n := n) f
    rw [e] at this; exact this
  rw [List.length_map] at h1
  obtain ⟨a, b, c, d, e⟩ := allT_len
  have : n = 0 ∨ n = 1 ∨ n = 2 ∨ n = 3 ∨ n = 4 := by omega
  rcases this with rfl | rfl | rfl | rfl | rfl
  · exact Nat.le_trans h1 a
  · exact Nat.le_trans h1 b
  · exact Nat.le_trans h1 c
  · exact Nat.le_trans h1 d
  · exact Nat.le_trans h1 e
theorem TOk.put {n : Nat} {L : WT} (h : TOk n L) {f r : List Nat} (hf : Tn n f) (hn : f ∉ L.map (·.1)) (hr : r.length ≤ L.length) : TOk n (L ++ [(f, r)]) := by
  refine ⟨?_, fun p hp => ?_, fun p hp => ?_⟩
  · rw [List.map_append, List.nodup_append]
    refine ⟨h.nd, by simp, fun a ha b hb e => ?_⟩
    have : b = f := by simpa using hb
    subst this; subst e; exact hn ha
  · rcases List.mem_append.mp hp with q | q
    · exact h.mem p q
    · rw [List.mem_singleton.mp q]; exact hf
  · rw [List.length_append, List.length_singleton]
    rcases List.mem_append.mp hp with q | q
    · exact Nat.lt_succ_of_lt (h.rl p q)
    · rw [List.mem_singleton.mp q]; exact Nat.lt_succ_of_le hr
theorem TOk.one {n : Nat} {b : List Nat} (hb : Tn n b) : TOk n [(b, [])] := ⟨by simp, fun q hq => by rw [List.mem_singleton.mp hq]; exact hb, fun q hq => by rw [List.mem_singleton.mp hq]; exact Nat.zero_lt_one⟩
theorem inT_ok {lead : List Nat → Nat → List Nat} {n : Nat} {t r : List Nat} : ∀ (cs : List Nat) (i : Nat) (L : WT), TOk n L → (t, r) ∈ L → (∀ j, i ≤ j → j < i + cs.length → Tn n (lead t j)) → TOk n (inT lead t r i cs L)
  | [], _, L, h, _, _ => h
  | c :: cs, i, L, h, ht, hl => by
    have ih : ∀ L : WT, TOk n L → (t, r) ∈ L → TOk n (inT lead t r (i + 1) cs L) := fun L h ht => inT_ok cs (i + 1) L h ht fun j h1 h2 => hl j (by omega) (by simp only [List.length_cons]; omega)
    by_cases hin : lead t i ∈ L.map (·.1)
    · rw [inT_in hin]; exact ih L h ht
    · rw [inT_new hin]
      have hp : TOk n (L ++ [(lead t i, r ++ [c])]) := h.put (hl i (Nat.le_refl _) (by simp only [List.length_cons]; omega)) hin (by have := h.rl _ ht; rw [List.length_append, List.length_singleton]; exact this)
      exact ih _ hp (List.mem_append_left _ ht)
theorem outT_ok {lead : List Nat → Nat → List Nat} {sg : List Nat} {n : Nat} (hlead : ∀ t i, Tn n t → i < sg.length → Tn n (lead t i)) : ∀ (k at_ : Nat) (L : WT), TOk n L → TOk n (outT lead sg k at_ L)
  | 0, _, L, h => h
  | k + 1, at_, L, h => by
    cases e : L[at_]? with
    | none => rw [outT_none (by rw [List.getElem?_eq_none_iff] at e; exact e)]; exact h
    | some q =>
      obtain ⟨t, r⟩ := q
      have hm := List.mem_of_getElem? e
      rw [outT_some e]
      exact outT_ok hlead k _ _ (inT_ok sg 0 L h hm fun j _ h2 => hlead _ _ (h.mem _ hm) (by omega))
theorem walkT_ok {lead : List Nat → Nat → List Nat} {sg b : List Nat} {n : Nat} (hb : Tn n b) (hlead : ∀ t i, Tn n t → i < sg.length → Tn n (lead t i)) : TOk n (walkT lead sg b) := outT_ok hlead _ _ _ (TOk.one hb)
def tK (kf : List Nat → List Key) (L : WT) : List (List Key × V) := L.map fun p => (kf p.1, .str (S p.2))
section
variable {kf : List Nat → List Key} {L : WT} {f r : List Nat}
theorem valV_none' {kvs : List (List Key × V)} {k : List Key} (h : ∀ p ∈ kvs, p.1 ≠ k) : valV kvs k = none := by
  induction kvs with
  | nil => rfl
  | cons p r ih => rw [valV_neg (h p List.mem_cons_self)]; exact ih fun q hq => h q (List.mem_cons_of_mem _ hq)
theorem tK_none (hk : ∀ p ∈ L, kf p.1 = kf f → p.1 = f) (h : f ∉ L.map (·.1)) : valV (tK kf L) (kf f) = none := valV_none' fun p hp e => by
  obtain ⟨q, hq, rfl⟩ := List.mem_map.mp hp
  exact h (List.mem_map.mpr ⟨q, hq, hk q hq e⟩)
theorem tK_some (hk : ∀ p ∈ L, kf p.1 = kf f → p.1 = f) (nd : (L.map (·.1)).Nodup) (h : (f, r) ∈ L) : valV (tK kf L) (kf f) = some (.str (S r)) := by
  induction L with
  | nil => cases h
  | cons p L ih =>
    rw [List.map_cons, List.nodup_cons] at nd
    unfold tK at ih ⊢
    rw [List.map_cons]
    rcases List.mem_cons.mp h with e | e
    · rw [← e]; exact valV_pos rfl
    · rw [valV_neg fun q => ?_]
      · exact ih (fun q hq => hk q (List.mem_cons_of_mem _ hq)) nd.2 e
      · have : p.1 = f := hk p List.mem_cons_self q
        exact nd.1 (by rw [this]; exact List.mem_map.mpr ⟨(f, r), e, rfl⟩)
theorem putK_tK (hk : ∀ p ∈ L, kf p.1 = kf f → p.1 = f) (h : f ∉ L.map (·.1)) : putK (tK kf L) (kf f) (.str (S r)) = tK kf (L ++ [(f, r)]) := by
  rw [putK_new _ (tK_none hk h)]; unfold tK; rw [List.map_append]; rfl
end
theorem tK_len (kf : List Nat → List Key) (L : WT) : (tK kf L).length = L.length := by unfold tK; rw [List.length_map]
def kI (t : List Nat) : List Key := t.map fun i => Sum.inl ((i : Nat) : Int)
def tI (t : List Nat) : List V := t.map fun i => V.int (i : Nat)
theorem kI_tI (t : List Nat) : (kI t).map kV = tI t := by unfold kI tI; rw [List.map_map]; rfl
theorem kI_inj : ∀ {a b : List Nat}, kI a = kI b → a = b
  | [], [], _ => rfl
  | [], _ :: _, h => by cases h
  | _ :: _, [], h => by cases h
  | x :: a, y :: b, h => by
    unfold kI at h
    rw [List.map_cons, List.map_cons, List.cons.injEq] at h
    have e := Sum.inl.inj h.1
    rw [kI_inj (a := a) (b := b) h.2, show x = y by omega]
def nmT (ms : List (List Nat)) (t : List Nat) : List (List Nat) := t.map fun i => ms.getD i []
def kN (ms : List (List Nat)) (t : List Nat) : List Key := (nmT ms t).map fun l => Sum.inr (S l)
theorem kN_txs (ms : List (List Nat)) (t : List Nat) : (kN ms t).map kV = txs (nmT ms t) := by unfold kN txs; rw [List.map_map]; rfl
theorem getD_inj {ms : List (List Nat)} (nd : ms.Nodup) {i j : Nat} (hi : i < ms.length) (hj : j < ms.length) (e : ms.getD i [] = ms.getD j []) : i = j := by
  rw [List.getD_eq_getElem?_getD, List.getD_eq_getElem?_getD, List.getElem?_eq_getElem hi, List.getElem?_eq_getElem hj] at e
  have e1 := nd.idxOf_getElem i hi
  have e2 := nd.idxOf_getElem j hj
  rw [show ms[i] = ms[j] from e, e2] at e1
  exact e1.symm
theorem kN_inj {ms : List (List Nat)} (nd : ms.Nodup) : ∀ {a b : List Nat}, (∀ x ∈ a, x < ms.length) → (∀ x ∈ b, x < ms.length) → kN ms a = kN ms b → a = b
  | [], [], _, _, _ => rfl
  | [], _ :: _, _, _, h => by cases h
  | _ :: _, [], _, _, h => by cases h
  | x :: a, y :: b, ha, hb, h => by
    unfold kN nmT at h
    rw [List.map_cons, List.map_cons, List.map_cons, List.map_cons, List.cons.injEq] at h
    have e := S_inj (Sum.inr.inj h.1)
    rw [kN_inj nd (a := a) (b := b) (fun z hz => ha z (List.mem_cons_of_mem _ hz)) (fun z hz => hb z (List.mem_cons_of_mem _ hz)) h.2, getD_inj nd (ha x List.mem_cons_self) (hb y List.mem_cons_self) e]
def leadN (sg : List Nat) (ms : List (List Nat)) (tg : List Nat → Nat → List Nat) (t : List Nat) (i : Nat) : List Nat := t.map fun x => ms.idxOf (tg (ms.getD x []) (sg.getD i 0))
theorem leadN_ok {sg : List Nat} {ms : List (List Nat)} {tg : List Nat → Nat → List Nat} (htg : ∀ m ∈ ms, ∀ c ∈ sg, tg m c ∈ ms) {n : Nat} (hn : n = ms.length) : ∀ t i, Tn n t → i < sg.length → Tn n (leadN sg ms tg t i) := fun t i ⟨h1, h2⟩ hi => by
  subst hn
  refine ⟨by unfold leadN; rw [List.length_map]; exact h1, fun x hx => ?_⟩
  unfold leadN at hx
  obtain ⟨y, hy, rfl⟩ := List.mem_map.mp hx
  refine List.idxOf_lt_length_of_mem (htg _ ?_ _ ?_)
  · rw [List.getD_eq_getElem?_getD, List.getElem?_eq_getElem (h2 y hy)]; exact List.getElem_mem _
  · rw [List.getD_eq_getElem?_getD, List.getElem?_eq_getElem hi]; exact List.getElem_mem _
theorem getD_idx {ms : List (List Nat)} {x : List Nat} (h : x ∈ ms) : ms.getD (ms.idxOf x) [] = x := by
  have hl := List.idxOf_lt_length_of_mem h
  rw [List.getD_eq_getElem?_getD, List.getElem?_eq_getElem hl]
  exact List.getElem_idxOf hl
def deedN (ms : List (List Nat)) (tg : List Nat → Nat → List Nat) (l : List Nat) : List Nat := ms.map fun m => ms.idxOf (ledTo tg m l)
theorem deedN_step {sg : List Nat} {ms : List (List Nat)} {tg : List Nat → Nat → List Nat} (htg : ∀ m ∈ ms, ∀ c ∈ sg, tg m c ∈ ms) {l : List Nat} (ho : Ov sg l) {i c : Nat} (hc : sg[i]? = some c) : leadN sg ms tg (deedN ms tg l) i = deedN ms tg (l ++ [c]) := by
  unfold leadN deedN
  rw [List.map_map]
  refine List.map_congr_left fun m hm => ?_
  show ms.idxOf (tg (ms.getD (ms.idxOf (ledTo tg m l)) []) (sg.getD i 0)) = _
  rw [getD_idx (led_in htg ho hm), List.getD_eq_getElem?_getD, hc]
  unfold ledTo
  rw [List.foldl_append]; rfl
theorem deedN_ok {sg : List Nat} {ms : List (List Nat)} {tg : List Nat → Nat → List Nat} (htg : ∀ m ∈ ms, ∀ c ∈ sg, tg m c ∈ ms) {l : List Nat} (ho : Ov sg l) : Tn ms.length (deedN ms tg l) := by
  refine ⟨by unfold deedN; rw [List.length_map], fun x hx => ?_⟩
  obtain ⟨m, hm, rfl⟩ := List.mem_map.mp hx
  exact List.idxOf_lt_length_of_mem (led_in htg ho hm)
theorem deed_names {sg : List Nat} {ms : List (List Nat)} {tg : List Nat → Nat → List Nat} (htg : ∀ m ∈ ms, ∀ c ∈ sg, tg m c ∈ ms) {l : List Nat} (ho : Ov sg l) : nmT ms (deedN ms tg l) = ms.map fun m => ledTo tg m l := by
  unfold nmT deedN
  rw [List.map_map]
  exact List.map_congr_left fun m hm => getD_idx (led_in htg ho hm)
theorem deedN_nil {ms : List (List Nat)} {tg : List Nat → Nat → List Nat} (nd : ms.Nodup) : deedN ms tg [] = List.range ms.length := by
  refine List.ext_getElem? fun j => ?_
  unfold deedN
  rw [List.getElem?_map]
  rcases Nat.lt_or_ge j ms.length with h | h
  · rw [List.getElem?_eq_getElem h, List.getElem?_range h]
    show some (ms.idxOf ms[j]) = some j
    rw [nd.idxOf_getElem j h]
  · rw [List.getElem?_eq_none h, List.getElem?_eq_none (by rw [List.length_range]; exact h)]; rfl
def DOk (sg : List Nat) (ms : List (List Nat)) (tg : List Nat → Nat → List Nat) (L : WT) : Prop := ∀ p ∈ L, p.1 = deedN ms tg p.2 ∧ Ov sg p.2
end Toy
set_option maxHeartbeats 2000000
namespace Toy
open PySem L2 C8 SX LX
section
variable {P : Program} {w : World} {K : PySem.W.Frag} {mg : Str → Option Value} {base : Heap}
def tgD (kvs : List (List Key × V)) (m : List Nat) (c : Nat) : List Nat := match valV kvs (ky m c) with
  | some (.str s) => s.cps.toList
  | _ => []
theorem Full.at_ {ms : List (List Nat)} {sg : List Nat} {kvs : List (List Key × V)} (h : Full ms sg kvs) {m : List Nat} (hm : m ∈ ms) {c : Nat} (hc : c ∈ sg) : valV kvs (ky m c) = some (.str (S (tgD kvs m c))) ∧ tgD kvs m c ∈ ms := by
  obtain ⟨x, hx, e⟩ := h m hm c hc
  have e2 : tgD kvs m c = x := by unfold tgD; rw [e]
  rw [e2]; exact ⟨e, hx⟩
theorem Draft.same {H H' : Hp} {q pm pd : Addr} {ms : List (List Nat)} {b sg : List Nat} {kvs : List (List Key × V)} (d : Draft K H q pm pd ms b sg kvs) (s : Same H H') : Draft K H' q pm pd ms b sg kvs :=
  ⟨s _ _ d.top, s _ _ d.marks, s _ _ d.goes, d.full, d.few, d.first, d.nd, d.nm, d.pos⟩
theorem names_ok : ∀ m ∈ names5, Name m := by decide
theorem names_sub {l : List (List Nat)} (nd : l.Nodup) (h : ∀ m ∈ l, m ∈ names5) : l.length ≤ 5 := by
  have key : ∀ (U l : List (List Nat)), l.Nodup → (∀ x ∈ l, x ∈ U) → l.length ≤ U.length := by
    intro U
    induction U with
    | nil =>
      intro l _ h
      cases l with
      | nil => exact Nat.le_refl _
      | cons a l => exact absurd (h a List.mem_cons_self) (by intro z; cases z)
    | cons u U ih =>
      intro l nd h
      have := ih (l.erase u) (nd.erase u) fun x hx => by
        have h1 := (nd.mem_erase_iff).mp hx
        rcases List.mem_cons.mp (h x h1.2) with z | z
        · exact absurd z h1.1
        · exact z
      have e := List.length_erase (a := u) (l := l)
      rw [List.length_cons]
      split at e <;> omega
  exact key names5 l nd h
theorem Draft.good {H : Hp} {q pm pd : Addr} {ms : List (List Nat)} {b sg : List Nat} {kvs : List (List Key × V)} (d : Draft K H q pm pd ms b sg kvs) (hs : Sg sg) : Good sg ms b (tgD kvs) :=
  ⟨hs, d.nd, d.pos, Nat.le_trans (names_sub d.nd d.nm) (by decide), fun m hm => names_ok m (d.nm m hm), d.first, fun m hm c hc => (d.full.at_ hm hc).2⟩
abbrev s_lreader : Stmt := top 45
abbrev n_lreader : List Str := ["signs_here", "draft", "marks_here", "begin", "goes", "rows_here", "mark", "sign"]
theorem sc_lreader : FnScope n_lreader ["signs_here", "draft"] (fnScope s_lreader) := fnScope_by (by decide +kernel)
abbrev ncs_lreader : Scope := relS (outS (ofRet ((fnBody s_lreader).getD 1 (.Pass ⟨0, 0, 0, 0⟩)))) (fnScope s_lreader)
def spLReader (C : Addr) : PySem.W.Frag → Sp := fun K vs H Q _ => ∃ (q pm pd : Addr) (ms : List (List Nat)) (b sg : List Nat) (kvs : List (List Key × V)), vs = [.str (S sg), .ref q] ∧ Draft K H q pm pd ms b sg kvs ∧ Sg sg ∧
  ∀ (p : Addr) (H' : Hp), Same H H' → H p = none → Rdr C H' p sg ms b (tgD kvs) → Q (.ref p) H'
theorem ok_lreader {C : Addr} (T : BT mg) (CH : CR K C) (mgC : mg "Reader" = some (.ref C)) (c_Reader : Mak P w K mg base 5 "Reader" C (spInit C) []) {f : Addr} {fd : FuncData} (F : Def K mg "_law_reader" s_lreader f fd) (b : Binds K fd ["signs_here", "draft"] []) : Cal P w K mg base 7 "_law_reader" (spLReader C K) [] := by
  refine cal0 F b .nil sc_lreader (fun vs H Q E h => ?_) (fun cdv A outer s H vs Q E hr h => ?_)
  · obtain ⟨q, pm, pd, ms, b, sg, kvs, rfl, _⟩ := h; rfl
  · obtain ⟨q, pm, pd, ms, b, sg, kvs, rfl, d, hsg, k⟩ := h
    have hgd := d.good hsg
    have h8 := hgd.h8
    refine ⟨_, (pss_cons (ps_asg (pv 1) (tupK K 3 (pgs_cons (pg_name (i := 2) sc_lreader.nd rfl (.inl rfl)) (pgs_cons (pg_name (i := 3) sc_lreader.nd rfl (.inl rfl)) (pgs_cons (pg_name (i := 4) sc_lreader.nd rfl (.inr rfl)) pgs_nil)))))
      (pss_cons (ps_setLc (i := 5) (own := [("mark", 6)]) rfl sc_lreader.nd rfl rfl rfl (pi_tup (pv 2)) (blkOk_by (N := n_lreader) (sc := fnScope s_lreader) (by decide +kernel)) (fun _ _ _ _ _ => (pg_name (i := 6) sc_lreader.nd rfl (.inr rfl))) (fun _ _ _ _ _ => pts_nil) (fun _ _ _ _ _ => (pe_lc (own := [("sign", 7)]) rfl sc_lreader.nd (pi_str (pv 0)) (blkOk_by (N := n_lreader) (sc := ncs_lreader) (by decide +kernel)) (fun _ _ _ _ _ => (pg_name (i := 7) sc_lreader.nd rfl (.inl rfl))) (fun _ _ _ _ _ => pts_nil) (fun _ _ _ _ _ => (pe_dget (hu_of hr) (pv 4) (pe_tup (pa_cons (pv 6) (pa_cons (pv 7) pa_nil))) (fun _ _ => rfl))))))
      (pss_one (ps_ret (pe_mk c_Reader hr (by decide) (by rfl) (pa_cons (pv 0) (pa_cons (pe_callTy (listK K) (by rfl) T.m_list PyProof.Rows.boot_list (pa_cons (pv 2) pa_nil)) (pa_cons (pv 3) (pa_cons (pv 5) pa_nil))))))
      ))), ?_⟩
    have hs3 := hsg.2.2.1
    refine ⟨_, rfl, q, _, rfl, .inl (.inl d.top), rfl, _, _, rfl, _, _, rfl, _, _, rfl, rfl, ?_⟩
    refine ⟨_, rfl, pm, rfl, ⟨_, SqT.of d.marks⟩, fun D hD => ?_⟩
    refine lc_keepH keep_same (walk_tup (K := K) (a := pm) (xs := txs ms)) hD (by rw [txs_len]; exact small1000 (by omega)) (fun j y H => ∃ p, y = .ref p ∧ p ≠ D ∧ ∀ mm, ms[j]? = some mm → H p = some (.lst (txs (sg.map (tgD kvs mm))))) (fun H r => SqT.of (r _ _ d.marks))
      (fun _ _ _ _ _ r1 ⟨p, e, n, h⟩ => ⟨p, e, n, fun mm hm => r1 _ _ (h mm hm)⟩) (fun _ _ _ _ _ _ _ ⟨p, e, n, h⟩ => ⟨p, e, n, fun mm hm => by rw [upd_ne n]; exact h mm hm⟩) (fun i x H2 H2' acc R hi r2 hDa hy hR => ?_) (fun ys H2 hly hg r2 hDs => ?_)
    · obtain ⟨rfl, e⟩ := hy
      obtain ⟨mm, em, rfl⟩ := txs_get e
      have hmem := List.mem_of_getElem? em
      have d2 := d.same r2
      refine ⟨rfl, ?_⟩
      refine ⟨_, rfl, S sg, rfl, fun D2 hD2 => lc_keep keep_same walk_str hD2 (by show sg.length < sizeLine; exact small1000 (by omega)) (fun j y => ∀ c, sg[j]? = some c → y = .str (S (tgD kvs mm c))) (fun _ _ => trivial) (fun j z H3 H4 R2 hj r3 hy hR2 => ?_) (fun zs H3 hlz hgz r3 hDz => ?_)⟩
      · obtain ⟨rfl, c, hc, rfl⟩ := hy
        have hc' : sg[j]? = some c := by simpa [S] using hc
        have d3 := d2.same r3
        refine ⟨rfl, ?_⟩
        refine ⟨_, rfl, _, rfl, _, rfl, (by show 2 ≤ sizeLine; decide), fun t ht => ?_⟩
        have hv := (d3.full.at_ hmem (List.mem_of_getElem? hc')).1
        refine ⟨pd, _, rfl, .inr ⟨_, ky mm c, t, .inl ((sm_new ht) _ _ d3.goes), rfl, by rw [upd_same]; rfl, hv.symm⟩, ?_⟩
        exact hR2 _ _ (sm_new ht) fun c' h => by rw [Option.some.inj (hc'.symm.trans h)]
      · have ez : zs = txs (sg.map (tgD kvs mm)) := by
          unfold txs; rw [List.map_map]
          exact list_map hlz fun j y c e1 e2 => hgz j y e1 c e2
        subst ez
        have nD : D2 ≠ D := fun e => by rw [e, hDa] at hD2; cases hD2
        exact hR _ _ r3 ⟨D2, rfl, nD, fun m2 h2 => by rw [em] at h2; cases h2; exact hDz⟩
    rw [txs_len] at hly
    obtain ⟨sa, hsa⟩ := fun_of (γ := Addr) hgd.hnd (P := fun j mm t => ys[j]? = some (V.ref t) ∧ H2 t = some (.lst (txs (sg.map (tgD kvs mm))))) fun j mm hj => by
      have hjl : j < ys.length := by rw [hly]; exact (List.getElem?_eq_some_iff.mp hj).1
      obtain ⟨t, e, _, h⟩ := hg j _ (List.getElem?_eq_getElem hjl)
      exact ⟨t, by rw [List.getElem?_eq_getElem hjl, e], h mm hj⟩
    have eys : ys = ms.map fun x => V.ref (sa x) := list_map hly fun j y x e1 e2 => by have := (hsa j x e2).1; rw [e1] at this; exact Option.some.inj this
    subst eys
    have hsa2 : ∀ x ∈ ms, H2 (sa x) = some (.lst (txs (sg.map (tgD kvs x)))) := fun x hx => by obtain ⟨j, hj⟩ := List.getElem?_of_mem hx; exact (hsa j x hj).2
    have d2 := d.same r2
    refine ⟨_, rfl, _, rfl, pm, _, rfl, .inr (SqT.of d2.marks), fun l hl => ?_⟩
    have s3 : Same H2 (upd H2 l (.lst (txs ms))) := sm_new hl
    have hl3 : (upd H2 l (.lst (txs ms))) l = some (.lst (txs ms)) := upd_same
    generalize upd H2 l (.lst (txs ms)) = H3 at s3 hl3
    refine ⟨_, rfl, _, rfl, fun p dx hp hdx hne => ?_⟩
    have hpx : ∀ b o, H3 b = some o → b ≠ p ∧ b ≠ dx := fun b o e => ⟨fun z => (by rw [← z, e] at hp; cases hp), fun z => (by rw [← z, e] at hdx; cases hdx)⟩
    have kp : ∀ b o, H3 b = some o → (upd (upd H3 dx (.own p)) p (.ins C dx [])) b = some o := fun b o e => by rw [upd_ne (hpx b o e).1, upd_ne (hpx b o e).2]; exact e
    refine ⟨p, dx, l, D, true, true, true, sg, ms, b, tgD kvs, sa, rfl, upd_same, kp _ _ hl3, kp _ _ (s3 _ _ hDs), fun x hx => kp _ _ (s3 _ _ (hsa2 x hx)), hgd, fun H' hk hr => ⟨rfl, k p H' (fun b o e => ?_) ?_ hr⟩⟩
    · have e2 := s3 _ _ (r2 _ _ e)
      exact hk b o (hpx b o e2).1 (kp b o e2)
    · cases e : H p with
      | none => rfl
      | some o => exact absurd rfl (hpx p o (s3 _ _ (r2 _ _ e))).1
theorem take_more' {l : List Nat} {i c : Nat} (h : l[i]? = some c) : l.take (i + 1) = l.take i ++ [c] := take_more h
end
theorem rgV_tI (n : Nat) : rgV 0 (n : Nat) = tI (List.range n) := by
  unfold rgV tI
  rw [show ((n : Int) - 0).toNat = n by omega]
  exact List.map_congr_left fun i _ => by rw [Int.zero_add]
theorem tI_len (t : List Nat) : (tI t).length = t.length := by unfold tI; rw [List.length_map]
theorem tI_get {t : List Nat} {i : Nat} {x : V} (h : (tI t)[i]? = some x) : ∃ y, t[i]? = some y ∧ x = .int (y : Nat) := by
  unfold tI at h
  rw [List.getElem?_map] at h
  cases e : t[i]? with
  | none => rw [e] at h; cases h
  | some q => rw [e] at h; exact ⟨q, rfl, (Option.some.inj h).symm⟩
theorem tI_of {t : List Nat} {f : Nat → Nat} {ys : List V} (hl : ys.length = (tI t).length) (h : ∀ (j : Nat) y, ys[j]? = some y → ∀ l, t[j]? = some l → y = .int (f l : Nat)) : ys = tI (t.map f) := by
  have e : tI (t.map f) = t.map fun l => V.int (f l : Nat) := by unfold tI; rw [List.map_map]; rfl
  rw [e]
  exact list_map (by rw [hl, tI_len]) fun j y l e1 e2 => h j y e1 l e2
theorem nm_of {ms : List (List Nat)} {t : List Nat} {ys : List V} (hl : ys.length = (tI t).length) (h : ∀ (j : Nat) y, ys[j]? = some y → ∀ l, t[j]? = some l → y = .str (S (ms.getD l []))) : ys = txs (nmT ms t) := by
  have e : txs (nmT ms t) = t.map fun l => V.str (S (ms.getD l [])) := by unfold txs nmT; rw [List.map_map]; rfl
  rw [e]
  exact list_map (by rw [hl, tI_len]) fun j y l e1 e2 => h j y e1 l e2
section
variable {P : Program} {w : World} {K : PySem.W.Frag} {mg : Str → Option Value} {base : Heap}
theorem ColAt.at_ {H : Hp} {co : Addr} {sg : List Nat} {ms : List (List Nat)} {tg : List Nat → Nat → List Nat} {ca : Nat → Addr} (h : ColAt H co sg ms tg ca) {c : Nat} (hc : c ∈ sg) : DGet H co (.str (S [c])) (some (.ref (ca c))) :=
  .inl ⟨_, tk [c], .inl h.hco, rfl, (valV_map' (key := fun c => tk [c]) (f := fun c => V.ref (ca c)) (fun _ _ e => (List.cons.inj (tk_inj e)).1) hc).symm⟩
theorem rl_cols {sg : List Nat} {m : Addr} {f : List Nat} {st nu le co : Addr} : (rdF sg m f st nu le [("_columns", .ref co)]).lookup ("_columns" : Str) = some (.ref co) := by rfl
theorem col_one {ms : List (List Nat)} {tg : List Nat → Nat → List Nat} {c : Nat} : colI ms tg c = tI (deedN ms tg [c]) := by unfold colI tI deedN; rw [List.map_map]; rfl
theorem col_get {ms : List (List Nat)} {tg : List Nat → Nat → List Nat} {c x : Nat} (h : x < ms.length) : (colI ms tg c)[x]? = some (.int (ms.idxOf (tg (ms.getD x []) c) : Nat)) := by
  unfold colI
  rw [List.getElem?_map, List.getD_eq_getElem?_getD, List.getElem?_eq_getElem h]; rfl
abbrev s_m_nled : Stmt := inClass (top 19) 5
abbrev n_m_nled : List Str := ["self", "row", "numbers", "sign", "column", "number"]
theorem sc_m_nled : FnScope n_m_nled ["self", "row"] (fnScope s_m_nled) := fnScope_by (by decide +kernel)
def spMNled (C : Addr) : Sp := fun vs H Q _ => ∃ (a : Addr) (sg : List Nat) (ms : List (List Nat)) (f : List Nat) (tg : List Nat → Nat → List Nat) (row : List Nat), vs = [.ref a, .str (S row)] ∧ Rdr C H a sg ms f tg ∧ Good sg ms f tg ∧ Ov sg row ∧ row.length ≤ 1000 ∧
  ∀ (t : Addr) (H' : Hp), Same H H' → H' t = some (.tup (tI (deedN ms tg row))) → Q (.ref t) H'
theorem ok_mnled {C : Addr} (T : BT mg) (CH : CR K C) {f : Addr} {fd : FuncData} (me : Meth K C "numbers_led" f) (F : C8.Fun K "numbers_led" "Reader.numbers_led" s_m_nled f fd) (b : Binds K fd ["self", "row"] []) : Met P w K mg base 1 C "numbers_led" (spMNled C) [] := by
  refine met0 CH.cl me F b sc_m_nled (fun vs H Q E h => ?_) (fun cdv A outer s H vs Q E hr h => ?_)
  · obtain ⟨a, sg, ms, f, tg, row, rfl, _⟩ := h; rfl
  · obtain ⟨a, sg, ms, f, tg, row, rfl, hrd, hgd, ho, hl, k⟩ := h
    have h8 := hgd.h8
    refine ⟨_, (pss_cons (ps_if (pt_cmpR op_eq (pe_callB call_len_str (by rfl) T.m_len PySem.boot_len (pa_cons (pv 1) pa_nil)) pe_int (nomark _)) 
        (pss_one (ps_ret (pe_dget (hu_of hr) (fldK K (pv 0) rfl) (pv 1) (fun _ _ => rfl)))
        )
       pss_nil)
      (pss_cons (ps_set (i := 2) sc_m_nled.nd rfl (.inl rfl) (pe_listRg rfl (by rfl) T.m_list (prg_1 (by rfl) T.m_range (pe_callB (lenK K) (by rfl) T.m_len PySem.boot_len (pa_cons (fldK K (pv 0) rfl) pa_nil)))))
      (pss_cons (ps_for PassesOwn.never rfl (pi_str (pv 1)) (pg_name (i := 3) sc_m_nled.nd rfl (.inl rfl)) 
        (pss_cons (ps_set (i := 4) sc_m_nled.nd rfl (.inr rfl) (pe_dget (hu_of hr) (fldK K (pv 0) rfl) (pv 3) (fun _ _ => rfl)))
        (pss_one (ps_setLc (i := 2) (own := [("number", 5)]) rfl sc_m_nled.nd rfl rfl rfl (pi_list (pv 2)) (blkOk_by (N := n_m_nled) (sc := fnScope s_m_nled) (by decide +kernel)) (fun _ _ _ _ _ => (pg_name (i := 5) sc_m_nled.nd rfl (.inl rfl))) (fun _ _ _ _ _ => pts_nil) (fun _ _ _ _ _ => (pe_ix (ixt K) (pv 4) (pv 5) (fun _ _ => rfl))))
        )))
      (pss_one (ps_ret (pe_callTy (tupleK K) (by rfl) T.m_tuple PyProof.Rows.boot_tuple (pa_cons (pv 2) pa_nil)))
      )))), ?_⟩
    obtain ⟨dx, m, st, nu, le, sa, la, co, ca, r, hcol⟩ := id hrd
    refine ⟨_, rfl, S row, rfl, by rw [S_len]; exact le1000 hl, rfl, _, rfl, ?_⟩
    rw [S_len]
    refine ite2 (fun hc => ?_) (fun hc => ?_)
    · have hc1 : row.length = 1 := by
        have hc2 : V.int (row.length : Nat) = V.int 1 := of_decide_eq_true hc
        have := V.int.inj hc2; omega
      obtain ⟨c, rfl⟩ := List.length_eq_one_iff.mp hc1
      have hcs : c ∈ sg := ho c List.mem_cons_self
      refine ⟨_, rfl, a, C, dx, _, _, rfl, r.ha, CH.cl, CH.nC, rl_cols, ?_⟩
      refine ⟨_, rfl, _, _, rfl, hcol.at_ hcs, ?_⟩
      exact k _ _ (Same.refl H) (by rw [← col_one]; exact hcol.hca c hcs)
    · clear hc
      refine nxt ?_
      dsimp only
      refine ⟨_, rfl, a, C, dx, _, _, rfl, r.ha, CH.cl, CH.nM, rl_marks, m, txs ms, rfl, .inr (SqT.of r.hm), _, rfl, ?_⟩
      rw [txs_len]
      refine ⟨RgOk.of_le (by omega) (by omega) (by omega) (by omega), fun p hp => ?_⟩
      rw [rgV_tI]
      refine ⟨_, rfl, _, rfl, for_it walk_str (fun i σ H' => ∃ (p : Addr) (s3 s4 s5 : Option V), σ = [some (.ref a), some (.str (S row)), some (.ref p), s3, s4, s5] ∧ Same H H' ∧ H' p = some (.lst (tI (deedN ms tg (row.take i)))))
        ⟨p, _, _, _, rfl, sm_new hp, by rw [upd_same, List.take_zero, deedN_nil hgd.hnd]⟩ (fun _ _ _ _ _ => trivial) ?_ ?_⟩
      · rintro i y σ H2 H2' hi ⟨p2, s3, s4, s5, rfl, s2, hp2⟩ ⟨rfl, c, hc, rfl⟩
        have hc' : row[i]? = some c := by simpa [S] using hc
        have hcs := ho c (List.mem_of_getElem? hc')
        have hov : Ov sg (row.take i) := fun d hd => ho d (List.mem_of_mem_take hd)
        have hT := deedN_ok (l := row.take i) hgd.htg hov
        have r2 := r.same s2
        have hcol2 := hcol.same s2
        refine ⟨_, rfl, a, C, dx, _, _, rfl, r2.ha, CH.cl, CH.nC, rl_cols, ?_⟩
        refine ⟨_, rfl, _, _, rfl, hcol2.at_ hcs, ?_⟩
        refine ⟨_, rfl, p2, rfl, ⟨_, SqL.of hp2⟩, fun D hD => ?_⟩
        refine lc_keep keep_same (walk_list (K := K) (a := p2) (xs := tI (deedN ms tg (row.take i)))) hD (by rw [tI_len, hT.1]; exact small1000 (by omega)) (fun j y => ∀ n, (deedN ms tg (row.take i))[j]? = some n → y = .int (ms.idxOf (tg (ms.getD n []) c) : Nat)) (fun H r => SqL.of (r _ _ hp2)) (fun j x H3 H3' R hj r3 hy hR => ?_) (fun ys H3 hly hg r3 hDs => ?_)
        · obtain ⟨rfl, e⟩ := hy
          obtain ⟨n, hn, rfl⟩ := tI_get e
          have hnl := hT.2 n (List.mem_of_getElem? hn)
          refine ⟨rfl, ?_⟩
          refine ⟨_, rfl, _, rfl, ca c, colI ms tg c, _, .int (ms.idxOf (tg (ms.getD n []) c) : Nat), rfl, rfl, SqT.of (r3 _ _ (hcol2.hca c hcs)), atI_nat (col_get hnl), ?_⟩
          exact hR _ _ (Same.refl _) fun n2 h2 => by rw [hn] at h2; cases h2; rfl
        · have ey : ys = tI ((deedN ms tg (row.take i)).map fun n => ms.idxOf (tg (ms.getD n []) c)) := tI_of (f := fun n => ms.idxOf (tg (ms.getD n []) c)) hly fun j y e n en => hg j y e n en
          subst ey
          refine ⟨D, _, _, _, rfl, s2.trans r3, ?_⟩
          rw [take_more hc']
          obtain ⟨j, hj⟩ := List.mem_iff_getElem?.mp hcs
          rw [← deedN_step hgd.htg hov hj]
          unfold leadN
          rw [List.getD_eq_getElem?_getD, hj]
          exact hDs
      · rintro σ H2 ⟨p2, s3, s4, s5, rfl, s2, hp2⟩
        have e : row.take (S row).cps.size = row := by rw [show (S row).cps.size = row.length by simp [S], List.take_length]
        have hp2 : H2 p2 = some (.lst (tI (deedN ms tg (row.take (S row).cps.size)))) := hp2
        rw [e] at hp2
        exact ⟨_, rfl, p2, _, rfl, .inl ⟨SqL.of hp2, fun t ht => k t _ (s2.trans (sm_new ht)) upd_same⟩⟩
end
end Toy
set_option maxHeartbeats 2000000
namespace Toy
open PySem L2 C8 SX LX
local macro_rules | `(tactic| walk_at "c") => `(tactic| refine And.intro (by first | (show (0 : Int) < _; omega) | exact Or.inr ⟨by decide, by decide⟩ | exact Or.inl ⟨by decide, by decide⟩ | (exact ⟨by omega, by omega⟩)) ?_)
local macro_rules | `(tactic| walk_at "s1") => `(tactic| first | refine ⟨_, rfl, ?_⟩ | refine ⟨_, _, rfl, rfl, ?_⟩ | refine .inl ⟨_, rfl, ?_⟩ | walk_at "c")
local macro_rules | `(tactic| walk_at "s") => `(tactic| repeat (walk_at "s1"))
def Ims (sg : List Nat) (ims : List (List Nat)) (m : Nat) : Prop := ims.length = sg.length ∧ ∀ l ∈ ims, Ov sg l ∧ l.length ≤ m
def img (sg : List Nat) (ims : List (List Nat)) (c : Nat) : List Nat := ims.getD (sg.idxOf c) []
def app (sg : List Nat) (ims : List (List Nat)) (l : List Nat) : List Nat := l.flatMap (img sg ims)
theorem img_get {sg : List Nat} {ims : List (List Nat)} {c : Nat} (hl : ims.length = sg.length) (hc : c ∈ sg) : ims[sg.idxOf c]? = some (img sg ims c) := by
  have h := List.idxOf_lt_length_of_mem hc
  unfold img
  rw [List.getD_eq_getElem?_getD, List.getElem?_eq_getElem (by omega)]
  rfl
theorem img_mem {sg : List Nat} {ims : List (List Nat)} {c : Nat} (hl : ims.length = sg.length) (hc : c ∈ sg) : img sg ims c ∈ ims := List.mem_of_getElem? (img_get hl hc)
theorem app_flat (sg : List Nat) (ims : List (List Nat)) (l : List Nat) : app sg ims l = (l.map (img sg ims)).flatten := List.flatMap_def ..
theorem sum_le {m : Nat} : ∀ {ys : List (List Nat)}, (∀ l ∈ ys, l.length ≤ m) → ((ys.map S).map (·.length)).sum ≤ ys.length * m
  | [], _ => by simp
  | y :: ys, h => by
    have ih := sum_le (m := m) (ys := ys) fun l hl => h l (List.mem_cons_of_mem _ hl)
    have h0 := h y List.mem_cons_self
    simp only [List.map_cons, List.sum_cons, List.length_cons]
    rw [S_len, Nat.add_mul]
    omega
theorem join_ok {m n : Nat} {ys : List (List Nat)} (h : ∀ l ∈ ys, l.length ≤ m) (hn : ys.length ≤ n) (hm : n * m ≤ 16000000) : ((ys.map S).map (·.length)).sum + (ys.map S).length * (Str.ofString "").length ≤ 16777216 := by
  rw [s_nil, S_len]
  have := sum_le h
  have h2 : ys.length * m ≤ n * m := Nat.mul_le_mul_right _ hn
  simp only [List.length_nil, Nat.mul_zero, Nat.add_zero]
  omega
section
variable {P : Program} {w : World} {K : PySem.W.Frag} {mg : Str → Option Value} {base : Heap}
def chF (sg : List Nat) (r : Addr) : List (Str × V) := [("signs", .str (S sg)), ("rows", .ref r)]
def Chg (C : Addr) (H : Hp) (a : Addr) (sg : List Nat) (ims : List (List Nat)) : Prop := ∃ dx r : Addr, H a = some (.ins C dx (chF sg r)) ∧ H r = some (.tup (txs ims))
theorem Chg.same {C a : Addr} {H H' : Hp} {sg : List Nat} {ims : List (List Nat)} (s : Same H H') (h : Chg C H a sg ims) : Chg C H' a sg ims := let ⟨dx, r, h1, h2⟩ := h; ⟨dx, r, s _ _ h1, s _ _ h2⟩
theorem n_sr : ¬ (("signs" : Str) = "rows") := by decide +kernel
theorem chF_signs (sg : List Nat) (r : Addr) : (chF sg r).lookup ("signs" : Str) = some (.str (S sg)) := by
  unfold chF; rw [List.lookup_cons_self]
theorem chF_rows (sg : List Nat) (r : Addr) : (chF sg r).lookup ("rows" : Str) = some (.ref r) := by
  have e : (("rows" : Str) == ("signs" : Str)) = false := by decide +kernel
  unfold chF; rw [List.lookup_cons, e, List.lookup_cons_self]
theorem chF_no (sg : List Nat) (r : Addr) {m : Str} (h1 : (m == ("signs" : Str)) = false) (h2 : (m == ("rows" : Str)) = false) : (chF sg r).lookup m = none := by
  unfold chF; rw [List.lookup_cons, h1, List.lookup_cons, h2]; rfl
structure CC (K : PySem.W.Frag) (C : Addr) : Prop where
  cl : Cls K C
  nS : NoAttr K C "signs"
  nR : NoAttr K C "rows"
abbrev s_of : Stmt := inClass (top 30) 4
abbrev n_of : List Str := ["self", "row", "sign"]
theorem sc_of : FnScope n_of ["self", "row"] (fnScope s_of) := fnScope_by (by decide +kernel)
def spOf (C : Addr) : Sp := fun vs H Q _ => ∃ (a : Addr) (sg : List Nat) (ims : List (List Nat)) (l : List Nat), vs = [.ref a, .str (S l)] ∧ Chg C H a sg ims ∧ Ims sg ims 1000 ∧ Ov sg l ∧ l.length ≤ 1000 ∧
  ∀ H', Same H H' → Q (.str (S (app sg ims l))) H'
theorem ok_of {C : Addr} (T : BT mg) (CH : CC K C) {f : Addr} {fd : FuncData} (me : Meth K C "of" f) (F : C8.Fun K "of" "Change.of" s_of f fd) (b : Binds K fd ["self", "row"] []) : Met P w K mg base 1 C "of" (spOf C) [] := by
  refine met0 CH.cl me F b sc_of (fun vs H Q E h => ?_) (fun cdv A outer s H vs Q E hr h => ?_)
  · obtain ⟨a, sg, ims, l, rfl, _⟩ := h; rfl
  · obtain ⟨a, sg, ims, l, rfl, ⟨dx, r, ha, hrr⟩, hi, ho, hl, k⟩ := h
    refine ⟨_, (pss_one (ps_ret (pe_join pe_str (pe_lc (own := [("sign", 2)]) rfl sc_of.nd (pi_str (pv 1)) (blkOk_by (N := n_of) (sc := fnScope s_of) (by decide +kernel)) (fun _ _ _ _ _ => (pg_name (i := 2) sc_of.nd rfl (.inl rfl))) (fun _ _ _ _ _ => pts_nil) (fun _ _ _ _ _ => (pe_ix (ixt K) (fldK K (pv 0) rfl) (pe_m1 PySem.F.slot_str_index PySem.F.type_str_index mt_sindex (fldK K (pv 0) rfl) (pv 2)) (fun _ _ => rfl))))))
      ), ?_⟩
    refine ⟨⟨_, rfl⟩, ?_⟩
    walk_at "s"
    refine fun D hD => lc_keep keep_same walk_str hD (by show l.length < sizeLine; exact small1000 hl) (fun j y => ∀ c, l[j]? = some c → y = .str (S (img sg ims c))) (fun _ _ => trivial) (fun i x H2 H3 R hii r1 hy hR => ?_) (fun ys H2 hly hg r1 hDs => ?_)
    · obtain ⟨rfl, c, hc, rfl⟩ := hy
      have hc' : l[i]? = some c := by simpa [S] using hc
      have hcs : c ∈ sg := ho c (List.mem_of_getElem? hc')
      obtain ⟨rest, hocc⟩ := occ_idx hcs
      refine ⟨rfl, ?_⟩
      refine ⟨_, rfl, a, C, dx, _, _, rfl, r1 _ _ ha, CH.cl, CH.nR, chF_rows _ _, ?_⟩
      refine ⟨_, rfl, a, C, dx, _, _, rfl, r1 _ _ ha, CH.cl, CH.nS, chF_signs _ _, ?_⟩
      refine ⟨⟨_, rfl⟩, _, rfl, _, _, _, rest, rfl, rfl, hocc, ?_⟩
      refine ⟨_, _, _, .str (S (img sg ims c)), rfl, rfl, .inl (.inl (r1 _ _ hrr)), at_of rfl ?_, hR _ _ (Same.refl _) fun d hd => ?_⟩
      · unfold txs; rw [List.getElem?_map, img_get hi.1 hcs]; rfl
      · rw [hc'] at hd; rw [Option.some.inj hd]
    · have e : ys = txs (l.map (img sg ims)) := by
        unfold txs; rw [List.map_map]
        exact list_map hly fun j y c e1 e2 => hg j y e1 c e2
      subst e
      refine ⟨_, D, (l.map (img sg ims)).map S, rfl, rfl, .inl (SqL.of (by rw [List.map_map]; exact hDs)), join_ok (m := 1000) (n := 1000) (fun z hz => ?_) (by simpa using hl) (by decide), ?_⟩
      · obtain ⟨c, hc, rfl⟩ := List.mem_map.mp hz
        exact (hi.2 _ (img_mem hi.1 (ho c hc))).2
      · show Q (.str (Txt.join (Str.ofString "") ((l.map (img sg ims)).map S))) H2
        rw [s_nil, join_txs, ← app_flat]
        exact k H2 r1
abbrev s_isrows : Stmt := top 16
abbrev n_isrows : List Str := ["value", "signs", "row"]
theorem sc_isrows : FnScope n_isrows ["value", "signs"] (fnScope s_isrows) := fnScope_by (by decide +kernel)
def spIsRows : Sp := fun vs H Q _ => ∃ (sg : List Nat) (p : Addr) (ims : List (List Nat)), vs = [.ref p, .str (S sg)] ∧ H p = some (.lst (txs ims)) ∧ ims.length ≤ 1000 ∧ (∀ l ∈ ims, Ov sg l ∧ l.length ≤ 1000) ∧ ∀ H', Same H H' → Q (.bl true) H'
theorem ok_isrows (T : BT mg) (c_isseq : Cal P w K mg base 1 "is_sequence" spIsSeq []) (c_isrow : Cal P w K mg base 1 "is_row" spIsRow []) {f : Addr} {fd : FuncData} (F : Def K mg "is_rows" s_isrows f fd) (b : Binds K fd ["value", "signs"] []) : Cal P w K mg base 2 "is_rows" spIsRows [] := by
  refine cal0 F b .nil sc_isrows (fun vs H Q E h => ?_) (fun cdv A outer s H vs Q E hr h => ?_)
  · obtain ⟨sg, p, ims, rfl, _⟩ := h; rfl
  · obtain ⟨sg, p, ims, rfl, hp, hl, hi, k⟩ := h
    refine ⟨_, (pss_one (ps_ret (pe_and (pe_c c_isseq hr (by first | decide | omega) (by rfl) (pa_cons (pv 0) pa_nil)) (pe_one (pe_callB (cr_all rfl) (by rfl) T.m_all PyProof.Rows.boot_all (pa_cons (pe_lc (own := [("row", 2)]) rfl sc_isrows.nd (pi_list (pv 0)) (blkOk_by (N := n_isrows) (sc := fnScope s_isrows) (by decide +kernel)) (fun _ _ _ _ _ => (pg_name (i := 2) sc_isrows.nd rfl (.inl rfl))) (fun _ _ _ _ _ => pts_nil) (fun _ _ _ _ _ => (pe_c c_isrow hr (by first | decide | omega) (by rfl) (pa_cons (pv 2) (pa_cons (pv 1) pa_nil))))) pa_nil)))))
      ), ?_⟩
    walk_at "s"
    refine ⟨p, true, _, rfl, hp, fun H1 hs1 => ?_⟩
    walk_at "s"
    refine ⟨⟨_, SqL.of (hs1 _ _ hp)⟩, fun D hD => lc_keep keep_same (walk_list (K := K) (a := p) (xs := txs ims)) hD (by rw [txs_len]; exact small1000 hl) (fun _ y => y = .bl true) (fun H2 r => SqL.of (r _ _ (hs1 _ _ hp))) (fun i x H2 H3 R hii r1 hy hR => ?_) (fun ys H2 hly hg r1 hDs => ?_)⟩
    · obtain ⟨rfl, e⟩ := hy
      unfold txs at e
      rw [List.getElem?_map] at e
      cases q : ims[i]? with
      | none => rw [q] at e; cases e
      | some l =>
        rw [q] at e; cases e
        have hml := hi l (List.mem_of_getElem? q)
        refine ⟨rfl, ?_⟩
        walk_at "s"
        refine ⟨sg, l, rfl, hml.2, ?_⟩
        rw [decide_eq_true hml.1]
        exact hR _ _ (Same.refl _) rfl
    · refine ⟨D, List.replicate ys.length true, rfl, SqL.of (by rw [← all_true hg]; exact hDs), ?_⟩
      rw [rep_all]
      exact k H2 (hs1.trans r1)
abbrev s_cinit : Stmt := inClass (top 30) 0
abbrev n_cinit : List Str := ["self", "signs", "rows"]
theorem sc_cinit : FnScope n_cinit ["self", "signs", "rows"] (fnScope s_cinit) := fnScope_by (by decide +kernel)
def spCInit (C : Addr) : Sp := fun vs H Q _ => ∃ (a dx p : Addr) (sg : List Nat) (ims : List (List Nat)), vs = [.ref a, .str (S sg), .ref p] ∧ H a = some (.ins C dx []) ∧ H p = some (.lst (txs ims)) ∧ Sg sg ∧ Ims sg ims 1000 ∧
  ∀ H', (∀ b o, b ≠ a → H b = some o → H' b = some o) → Chg C H' a sg ims → Q .non H'
theorem ok_cinit {C : Addr} (T : BT mg) (CH : CC K C) (c_issigns : Cal P w K mg base 3 "is_signs" spIsSigns []) (c_isrows : Cal P w K mg base 2 "is_rows" spIsRows []) (M : Mk K C f) (hm : mg "Change" = some (.ref C)) {fd : FuncData} (F : C8.Fun K "__init__" "Change.__init__" s_cinit f fd) (b : Binds K fd ["self", "signs", "rows"] []) : Mak P w K mg base 4 "Change" C (spCInit C) [] := by
  refine mak0 M hm F b .nil sc_cinit (fun vs H Q E h => ?_) (fun cdv A outer s H vs Q E hr h => ?_)
  · obtain ⟨a, dx, p, sg, ims, rfl, _⟩ := h; rfl
  · obtain ⟨a, dx, p, sg, ims, rfl, ha, hp, hmn, hi, k⟩ := h
    have hlen : 1 ≤ sg.length ∧ sg.length ≤ 3 := ⟨hmn.2.1, hmn.2.2.1⟩
    refine ⟨_, (pss_cons (ps_if (pt_not (pt_val (pe_c c_issigns hr (by first | decide | omega) (by rfl) (pa_cons (pv 1) pa_nil)))) 
        (pss_one ps_never
        )
       pss_nil)
      (pss_cons (ps_if (PW.pt (pw_or (pt_not (pt_val (pe_c c_isrows hr (by first | decide | omega) (by rfl) (pa_cons (pv 2) (pa_cons (pv 1) pa_nil))))) (pw_or1 (pt_cmpR op_ne (pe_callB (lenK K) (by rfl) T.m_len PySem.boot_len (pa_cons (pv 2) pa_nil)) (pe_callB call_len_str (by rfl) T.m_len PySem.boot_len (pa_cons (pv 1) pa_nil)) (nomark _))))) 
        (pss_one ps_never
        )
       pss_nil)
      (pss_cons (ps_fld (pv 0) (pv 1) rfl)
      (pss_one (ps_fld (pv 0) (pe_callTy (tupleK K) (by rfl) T.m_tuple PyProof.Rows.boot_tuple (pa_cons (pv 2) pa_nil)) rfl)
      )))), ?_⟩
    walk_at "s"
    refine ⟨hmn, fun H1 hs1 => ?_⟩
    walk_at "s"
    refine ⟨sg, p, ims, rfl, hs1 _ _ hp, by rw [hi.1]; omega, hi.2, fun H2 hs2 => ?_⟩
    have hp2 := hs2 _ _ (hs1 _ _ hp)
    walk_at "s"
    refine ⟨_, _, rfl, .inl (SqL.of hp2), ?_⟩
    walk_at "s"
    have ha2 := hs2 _ _ (hs1 _ _ ha)
    refine ⟨by rw [S_len]; exact Nat.le_trans hlen.2 (by decide), rfl, _, rfl, iteN ?_ ?_⟩
    · rw [txs_len, hi.1, S_len]; simp
    refine ⟨_, rfl, _, rfl, a, C, dx, [], rfl, ha2, CH.cl, CH.nS, (by show 0 < 1000; decide), ?_⟩
    have npa : p ≠ a := ne_of hp2 ha2 (by intro h; cases h)
    refine ⟨_, rfl, _, _, rfl, .inl ⟨SqL.of (by rw [upd_ne npa]; exact hp2), fun l hl => ?_⟩⟩
    have hl2 : H2 l = none := by
      by_cases e : l = a
      · rw [e, upd_same] at hl; cases hl
      · rw [upd_ne e] at hl; exact hl
    have nal : a ≠ l := ne_of_none ha2 hl2
    refine ⟨_, rfl, a, C, dx, _, rfl, (by rw [upd_ne nal, upd_same]), CH.cl, CH.nR, (by show 1 < 1000; decide), ?_⟩
    refine k _ (fun b o n e => ?_) ⟨dx, l, ?_, ?_⟩
    · rw [upd_ne n, upd_ne (ne_of_none (hs2 _ _ (hs1 _ _ e)) hl2), upd_ne n]
      exact hs2 _ _ (hs1 _ _ e)
    · rw [upd_same]
      have e : putF ("rows" : Str) (.ref l) (putF ("signs" : Str) (.str (S sg)) []) = chF sg l := by
        show (if ("signs" : Str) = "rows" then _ else (("signs" : Str), V.str (S sg)) :: putF ("rows" : Str) (.ref l) []) = _
        rw [if_neg n_sr]; rfl
      rw [e]
    · rw [upd_ne nal.symm, upd_same]
theorem cmake_use {C : Addr} {H : Hp} {R : VK} {sg : List Nat} {p : Addr} {ims : List (List Nat)} (hp : H p = some (.lst (txs ims))) (hm : Sg sg) (hi : Ims sg ims 1000) (k : ∀ (q : Addr) (H' : Hp), H q = none → Same H H' → Chg C H' q sg ims → R (.ref q) H') :
    ∀ x dx, H x = none → H dx = none → dx ≠ x → spCInit C (.ref x :: ([.str (S sg), .ref p] ++ [])) (upd (upd H dx (.own x)) x (.ins C dx [])) (fun v H2 => v = .non ∧ R (.ref x) H2) C8.E0 := fun x dx nx nd ne => by
  have npx : p ≠ x := ne_of_none hp nx
  have npd : p ≠ dx := ne_of_none hp nd
  refine ⟨x, dx, p, sg, ims, rfl, upd_same, by rw [upd_ne npx, upd_ne npd]; exact hp, hm, hi, fun H' hk hc => ⟨rfl, k x H' nx (fun b o e => ?_) hc⟩⟩
  refine hk b o (ne_of_none e nx) ?_
  rw [upd_ne (ne_of_none e nx), upd_ne (ne_of_none e nd)]
  exact e
end
end Toy
set_option maxHeartbeats 2000000
namespace Toy
open PySem L2 C8 SX LX
def GPart (K : PySem.W.Frag) (C C2 : Addr) (H : Hp) (v : V) (sg : List Nat) (n : Nat) : Prop := ∃ (p r : Addr) (c : V) (b : Bool) (ms : List (List Nat)) (f : List Nat) (tg : List Nat → Nat → List Nat), v = .ref p ∧ SqT K H p [.ref r, c, .bl b] ∧ Rdr C H r sg ms f tg ∧ Good sg ms f tg ∧ n = ms.length ∧
  (c = .non ∨ ∃ (q : Addr) (ims : List (List Nat)), c = .ref q ∧ Chg C2 H q sg ims ∧ Ims sg ims 40)
theorem GPart.same {K : PySem.W.Frag} {C C2 : Addr} {H H' : Hp} {v : V} {sg : List Nat} {n : Nat} (h : GPart K C C2 H v sg n) (s : Same H H') : GPart K C C2 H' v sg n := by
  obtain ⟨p, r, c, b, ms, f, tg, e, h1, h2, h3, h4, h5⟩ := h
  refine ⟨p, r, c, b, ms, f, tg, e, sm_seqT s h1, h2.same s, h3, h4, ?_⟩
  rcases h5 with h5 | ⟨q, ims, e, h5, h6⟩
  · exact .inl h5
  · exact .inr ⟨q, ims, e, h5.same s, h6⟩
section
variable {P : Program} {w : World} {K : PySem.W.Frag} {mg : Str → Option Value} {base : Heap}
theorem app_len {sg : List Nat} {ims : List (List Nat)} {m : Nat} (hi : Ims sg ims m) : ∀ {l : List Nat}, Ov sg l → (app sg ims l).length ≤ l.length * m
  | [], _ => by simp [app]
  | c :: l, ho => by
    have ih := app_len hi (l := l) fun d hd => ho d (List.mem_cons_of_mem _ hd)
    have h0 := (hi.2 _ (img_mem hi.1 (ho c List.mem_cons_self))).2
    have e : app sg ims (c :: l) = img sg ims c ++ app sg ims l := by unfold app; rw [List.flatMap_cons]
    rw [e, List.length_append, List.length_cons, Nat.add_mul]
    omega
theorem app_ov {sg : List Nat} {ims : List (List Nat)} {m : Nat} (hi : Ims sg ims m) {l : List Nat} (ho : Ov sg l) : Ov sg (app sg ims l) := fun d hd => by
  obtain ⟨c, hc, h⟩ := List.mem_flatMap.mp hd
  exact (hi.2 _ (img_mem hi.1 (ho c hc))).1 d h
abbrev s_rop : Stmt := top 34
abbrev n_rop : List Str := ["part", "row", "changed"]
theorem sc_rop : FnScope n_rop ["part", "row"] (fnScope s_rop) := fnScope_by (by decide +kernel)
def spRop (K : PySem.W.Frag) (C C2 : Addr) : Sp := fun vs H Q _ => ∃ (v : V) (sg : List Nat) (n : Nat) (row : List Nat), vs = [v, .str (S row)] ∧ GPart K C C2 H v sg n ∧ Ov sg row ∧ row.length ≤ 20 ∧
  ∀ (row' : List Nat) (H' : Hp), Same H H' → Ov sg row' → row'.length ≤ 800 → Q (.str (S row')) H'
theorem ok_rop {C C2 : Addr} (T : BT mg) (c_of : Met P w K mg base 1 C2 "of" (spOf C2) []) {f : Addr} {fd : FuncData} (F : Def K mg "row_of_part" s_rop f fd) (b : Binds K fd ["part", "row"] []) : Cal P w K mg base 2 "row_of_part" (spRop K C C2) [] := by
  refine cal0 F b .nil sc_rop (fun vs H Q E h => ?_) (fun cdv A outer s H vs Q E hr h => ?_)
  · obtain ⟨v, sg, n, row, rfl, _⟩ := h; rfl
  · obtain ⟨v, sg, n, row, rfl, ⟨p, r, c, b, ms, f, tg, rfl, hp, hrd, hgd, rfl, hc⟩, ho, hl, k⟩ := h
    refine ⟨_, (pss_cons (ps_set (i := 2) sc_rop.nd rfl (.inl rfl) (pe_ifExp (pt_cmpR op_isN (pe_ix (ixt K) (pv 0) pe_int (fun _ _ => rfl)) pe_non (nomark _)) (pv 1) (pe_mt c_of hr (by decide) (pe_ix (ixt K) (pv 0) pe_int (fun _ _ => rfl)) (pa_cons (pv 1) pa_nil))))
      (pss_one (ps_ret (pe_ifExp (pt_val (pe_ix (ixt K) (pv 0) pe_int (fun _ _ => rfl))) (pe_revS (pv 2) (pe_un un_neg pe_int)) (pv 2)))
      )), ?_⟩
    have fin : ∀ (ch : List Nat) (H1 : Hp), Same H H1 → Ov sg ch → ch.length ≤ 800 → tRet (tIf (tB (tOp (rIxT K) (tVar 0) (tC (V.int 2)))) (tRevS (tVar 2) (tUn (rU fun i => V.int (-i)) (tC (V.int 1)))) (tVar 2)) { nx := fun _ H' => Q V.non H', rt := Q } [some (.ref p), some (.str (S row)), some (.str (S ch))] H1 := fun ch H1 s1 ho1 hl1 => by
      refine ⟨_, rfl, p, _, 2, _, rfl, rfl, sm_seqT s1 hp, rfl, ?_⟩
      cases b
      · refine ⟨_, rfl, iteN rfl ⟨_, rfl, k ch H1 s1 ho1 hl1⟩⟩
      · refine ⟨_, rfl, iteB rfl ⟨_, rfl, _, rfl, ?_⟩⟩
        exact ⟨-1, rfl, rfl, ch, rfl, sz hl1 (by decide), k ch.reverse H1 s1 (fun d hd => ho1 d (List.mem_reverse.mp hd)) (by rw [List.length_reverse]; exact hl1)⟩
    refine ⟨_, rfl, p, _, 1, _, rfl, rfl, hp, rfl, ?_⟩
    rcases hc with rfl | ⟨q, ims, rfl, hch, hi⟩
    · refine ⟨rfl, _, rfl, iteB (decide_eq_true rfl) ?_⟩
      exact ⟨_, rfl, fin row H (Same.refl H) ho (by omega)⟩
    · refine ⟨rfl, _, rfl, iteN (decide_eq_false fun h => nomatch h) ?_⟩
      refine ⟨_, rfl, p, _, 1, _, rfl, rfl, hp, rfl, ?_⟩
      obtain ⟨dx, rr, hq, hrr⟩ := id hch
      refine ⟨q, dx, _, rfl, hq, chF_no _ _ (by decide +kernel) (by decide +kernel), ?_⟩
      refine ⟨_, rfl, q, sg, ims, row, rfl, hch, ⟨hi.1, fun l hl => ⟨(hi.2 l hl).1, by have := (hi.2 l hl).2; omega⟩⟩, ho, by omega, fun H2 s2 => ?_⟩
      have hal := app_len hi ho
      exact fin _ H2 s2 (app_ov hi ho) (by omega)
abbrev s_ledp : Stmt := top 33
abbrev n_ledp : List Str := ["begin", "part", "row", "number"]
theorem sc_ledp : FnScope n_ledp ["begin", "part", "row"] (fnScope s_ledp) := fnScope_by (by decide +kernel)
def spLedp (K : PySem.W.Frag) (C C2 : Addr) : Sp := fun vs H Q _ => ∃ (b : Int) (v : V) (sg : List Nat) (n : Nat) (row : List Nat), vs = [.int b, v, .str (S row)] ∧ GPart K C C2 H v sg n ∧ Ov sg row ∧ row.length ≤ 20 ∧
  ∀ (D : Addr) (xs : List V) (H' : Hp), Same H H' → H D = none → H' D = some (.lst xs) → xs.length = n → Q (.ref D) H'
theorem ok_ledp {C C2 : Addr} (T : BT mg) (CH : CR K C) (c_m_nled : Met P w K mg base 1 C "numbers_led" (spMNled C) []) (c_rop : Cal P w K mg base 2 "row_of_part" (spRop K C C2) []) {f : Addr} {fd : FuncData} (F : Def K mg "_led_places" s_ledp f fd) (b : Binds K fd ["begin", "part", "row"] []) : Cal P w K mg base 3 "_led_places" (spLedp K C C2) [] := by
  refine cal0 F b .nil sc_ledp (fun vs H Q E h => ?_) (fun cdv A outer s H vs Q E hr h => ?_)
  · obtain ⟨b, v, sg, n, row, rfl, _⟩ := h; rfl
  · obtain ⟨b0, v, sg, n, row, rfl, hg, ho, hl, k⟩ := h
    obtain ⟨p, r, c, b, ms, f, tg, rfl, hp, hrd, hgd, rfl, hc⟩ := id hg
    have h8 := hgd.h8
    refine ⟨_, (pss_one (ps_ret (pe_lc (own := [("number", 3)]) rfl sc_ledp.nd (pi_tup (pe_mt c_m_nled hr (by decide) (pe_ix (ixt K) (pv 1) pe_int (fun _ _ => rfl)) (pa_cons (pe_c c_rop hr (by first | decide | omega) (by rfl) (pa_cons (pv 1) (pa_cons (pv 2) pa_nil))) pa_nil))) (blkOk_by (N := n_ledp) (sc := fnScope s_ledp) (by decide +kernel)) (fun _ _ _ _ _ => (pg_name (i := 3) sc_ledp.nd rfl (.inl rfl))) (fun _ _ _ _ _ => pts_nil) (fun _ _ _ _ _ => (pe_op op_add (pv 0) (pv 3)))))
      ), ?_⟩
    obtain ⟨dx, m, st, nu, le, sa, la, co, ca, hra, hcol⟩ := id hrd
    refine ⟨_, rfl, p, _, 0, _, rfl, rfl, hp, rfl, ?_⟩
    refine ⟨r, dx, _, rfl, hra.ha, rdr_no (.inr ⟨_, rfl⟩) (by decide +kernel), ?_⟩
    refine ⟨_, rfl, _, rfl, .ref p, sg, ms.length, row, rfl, hg, ho, hl, fun row' H1 s1 ho1 hl1 => ?_⟩
    refine ⟨r, sg, ms, f, tg, row', rfl, hrd.same s1, hgd, ho1, by omega, fun t H2 s2 ht => ?_⟩
    have hT := deedN_ok (l := row') hgd.htg ho1
    refine ⟨t, rfl, ⟨_, SqT.of ht⟩, fun D hD => ?_⟩
    refine lc_keep keep_same (walk_tup (K := K) (a := t) (xs := tI (deedN ms tg row'))) hD (by rw [tI_len, hT.1]; exact small1000 (by omega)) (fun j y => True) (fun H r => SqT.of (r _ _ ht)) (fun i x H3 H3' R hi r3 hy hR => ?_) (fun ys H3 hly hg r3 hDs => ?_)
    · obtain ⟨rfl, e⟩ := hy
      obtain ⟨z, hz, rfl⟩ := tI_get e
      refine ⟨rfl, ?_⟩
      exact ⟨_, rfl, _, rfl, _, _, rfl, rfl, hR _ _ (Same.refl _) trivial⟩
    · refine k D ys H3 ((s1.trans s2).trans r3) ?_ hDs (by rw [hly, tI_len, hT.1])
      exact (s1.trans s2).free hD
structure CP (K : PySem.W.Frag) (C : Addr) : Prop where
  cl : Cls K C
  nS : PySem.W.findIn K (.ref C) "signs" = some none
  nP : PySem.W.findIn K (.ref C) "parts" = some none
  nM : PySem.W.findIn K (.ref C) "marks" = some none
  nN : PySem.W.findIn K (.ref C) "spans" = some none
  nA : PySem.W.findIn K (.ref C) "at_first" = some none
  nT : PySem.W.findIn K (.ref C) "steps" = some none
def plF (sg : List Nat) (pt m sp : Addr) : List (Str × V) := [("signs", .str (S sg)), ("parts", .ref pt), ("marks", .ref m), ("spans", .ref sp)]
def plF5 (sg : List Nat) (pt m sp af : Addr) : List (Str × V) := [("signs", .str (S sg)), ("parts", .ref pt), ("marks", .ref m), ("spans", .ref sp), ("at_first", .ref af)]
def GParts (K : PySem.W.Frag) (C C2 : Addr) (H : Hp) (xs : List V) (sg : List Nat) (ns : List Nat) : Prop := xs.length = ns.length ∧ ∀ (i : Nat) v n, xs[i]? = some v → ns[i]? = some n → GPart K C C2 H v sg n
theorem GParts.same {K : PySem.W.Frag} {C C2 : Addr} {H H' : Hp} {xs : List V} {sg ns : List Nat} (h : GParts K C C2 H xs sg ns) (s : Same H H') : GParts K C C2 H' xs sg ns := ⟨h.1, fun i v n e1 e2 => (h.2 i v n e1 e2).same s⟩
def spanT (ns : List Nat) (i : Nat) : List V := [.int ((ns.take i).sum : Nat), .int ((ns.take (i + 1)).sum : Nat)]
def Spans (H : Hp) (ss : List V) (ns : List Nat) (k : Nat) : Prop := ss.length = k ∧ ∀ (i : Nat) x, ss[i]? = some x → ∃ t, x = .ref t ∧ H t = some (.tup (spanT ns i))
theorem Spans.same {H H' : Hp} {ss : List V} {ns : List Nat} {k : Nat} (h : Spans H ss ns k) (s : Same H H') : Spans H' ss ns k := ⟨h.1, fun i x e => let ⟨t, e1, e2⟩ := h.2 i x e; ⟨t, e1, s _ _ e2⟩⟩
theorem take_sum_le (ns : List Nat) (i : Nat) : (ns.take i).sum ≤ ns.sum := by
  have e : (ns.take i ++ ns.drop i).sum = ns.sum := by rw [List.take_append_drop]
  rw [List.sum_append] at e
  omega
theorem take_sum_succ {ns : List Nat} {i n : Nat} (h : ns[i]? = some n) : (ns.take (i + 1)).sum = (ns.take i).sum + n := by
  rw [List.take_add_one, h, List.sum_append]; simp
theorem sm_put_own {H H1 : Hp} {p : Addr} {o : HO} (s : Same H H1) (h : H p = none) : Same H (upd H1 p o) := fun b u e => by rw [upd_ne (ne_of_none e h)]; exact s b u e
abbrev s_stepof : Stmt := inClass (top 32) 1
abbrev n_stepof : List Str := ["self", "sign", "entered", "followed", "begin", "end", "part", "places"]
theorem sc_stepof : FnScope n_stepof ["self", "sign"] (fnScope s_stepof) := fnScope_by (by decide +kernel)
def spStepof (K : PySem.W.Frag) (C C2 C3 : Addr) : Sp := fun vs H Q _ => ∃ (a dx pt m sp af : Addr) (sg : List Nat) (c : Nat) (xs ss fs : List V) (ns : List Nat), vs = [.ref a, .str (S [c])] ∧ H a = some (.ins C3 dx (plF5 sg pt m sp af)) ∧ SqT K H pt xs ∧ GParts K C C2 H xs sg ns ∧ H sp = some (.lst ss) ∧ Spans H ss ns ns.length ∧ H af = some (.tup fs) ∧ fs.length = ns.sum ∧ ns.sum ≤ 400 ∧ ns.length ≤ 20 ∧ c ∈ sg ∧
  ∀ (v : V) (H' : Hp), Same H H' → Q v H'
theorem ok_stepof {C C2 C3 : Addr} (T : BT mg) (CP_ : CP K C3) (c_ledp : Cal P w K mg base 3 "_led_places" (spLedp K C C2) []) {f : Addr} {fd : FuncData} (me : Meth K C3 "_step_of" f) (F : C8.Fun K "_step_of" "Placing._step_of" s_stepof f fd) (b : Binds K fd ["self", "sign"] []) : Met P w K mg base 4 C3 "_step_of" (spStepof K C C2 C3) [] := by
  refine met0 CP_.cl me F b sc_stepof (fun vs H Q E h => ?_) (fun cdv A outer s H vs Q E hr h => ?_)
  · obtain ⟨a, dx, pt, m, sp, af, sg, c, xs, ss, fs, ns, rfl, _⟩ := h; rfl
  · obtain ⟨a, dx, pt, m, sp, af, sg, c, xs, ss, fs, ns, rfl, ha, hpt, hgp, hsp, hss, haf, hfl, h400, h20, hc, k⟩ := h
    refine ⟨_, (pss_cons (ps_set (i := 2) sc_stepof.nd rfl (.inl rfl) (pe_callTy (listK K) (by rfl) T.m_list PyProof.Rows.boot_list (pa_cons (fldK K (pv 0) rfl) pa_nil)))
      (pss_cons (ps_set (i := 3) sc_stepof.nd rfl (.inl rfl) (pe_callTy (listK K) (by rfl) T.m_list PyProof.Rows.boot_list (pa_cons (fldK K (pv 0) rfl) pa_nil)))
      (pss_cons (ps_for PassesOwn.never rfl (pi_zipX (by rfl) T.m_zip (pa_cons (fldK K (pv 0) rfl) (pa_cons (fldK K (pv 0) rfl) pa_nil))) (tupK K 2 (pgs_cons (tupK K 2 (pgs_cons (pg_name (i := 4) sc_stepof.nd rfl (.inl rfl)) (pgs_cons (pg_name (i := 5) sc_stepof.nd rfl (.inl rfl)) pgs_nil))) (pgs_cons (pg_name (i := 6) sc_stepof.nd rfl (.inl rfl)) pgs_nil))) 
        (pss_cons (ps_set (i := 7) sc_stepof.nd rfl (.inl rfl) (pe_ifExp (pt_val (pe_ix (ixt K) (pv 6) pe_int (fun _ _ => rfl))) (pv 2) (pv 3)))
        (pss_one (ps_asg (pe_c c_ledp hr (by first | decide | omega) (by rfl) (pa_cons (pv 4) (pa_cons (pv 6) (pa_cons (pv 1) pa_nil)))) (pg_slice (pv 7) (po_some (pv 4)) (po_some (pv 5))))
        )))
      (pss_one (ps_ret (pe_tup (pa_cons (pv 2) (pa_cons (pv 3) pa_nil))))
      )))), ?_⟩
    refine ⟨_, rfl, a, C3, dx, _, _, rfl, ha, CP_.cl, CP_.nA, (show _ = some (V.ref af) by rfl), ?_⟩
    refine ⟨af, _, rfl, .inr (SqT.of haf), fun p hp => ?_⟩
    have hpH := hp
    refine ⟨_, rfl, a, C3, dx, _, _, rfl, (sm_new hp) _ _ ha, CP_.cl, CP_.nA, (show _ = some (V.ref af) by rfl), ?_⟩
    refine ⟨af, _, rfl, .inr (SqT.of ((sm_new hp) _ _ haf)), fun q hq => ?_⟩
    have hqp : q ≠ p := fun e => by rw [e, upd_same] at hq; cases hq
    have hqH : H q = none := by rw [upd_ne hqp] at hq; exact hq
    have s1 : Same H (upd (upd H p (.lst fs)) q (.lst fs)) := (sm_new hp).trans (sm_new hq)
    have hp1 : (upd (upd H p (.lst fs)) q (.lst fs)) p = some (.lst fs) := by rw [upd_ne hqp.symm, upd_same]
    have hq1 : (upd (upd H p (.lst fs)) q (.lst fs)) q = some (.lst fs) := upd_same
    generalize upd (upd H p (.lst fs)) q (.lst fs) = H1 at s1 hp1 hq1
    refine ⟨_, rfl, a, C3, dx, _, _, rfl, s1 _ _ ha, CP_.cl, CP_.nN, (show _ = some (V.ref sp) by rfl), ?_⟩
    refine ⟨_, rfl, a, C3, dx, _, _, rfl, s1 _ _ ha, CP_.cl, CP_.nP, (show _ = some (V.ref pt) by rfl), ?_⟩
    refine ⟨.ref sp, .ref pt, .lst sp, .tup pt, rfl, rfl, rfl, ⟨_, SqL.of (s1 _ _ hsp)⟩, ⟨_, sm_seqT s1 hpt⟩, ?_⟩
    refine for_it (walk_zipX (K := K) (S1 := .lst sp) (S2 := .tup pt) (xs := ss) (ys := xs)) (fun i σ H' => ∃ (s4 s5 s6 s7 : Option V) (es gs : List V), σ = [some (.ref a), some (.str (S [c])), some (.ref p), some (.ref q), s4, s5, s6, s7] ∧ Same H H' ∧ H' p = some (.lst es) ∧ es.length = ns.sum ∧ H' q = some (.lst gs) ∧ gs.length = ns.sum)
      ⟨_, _, _, _, fs, fs, rfl, s1, hp1, hfl, hq1, hfl⟩ (fun _ _ _ _ ⟨_, _, _, _, _, _, _, e, _⟩ => ⟨SqL.of (e _ _ hsp), sm_seqT e hpt⟩) ?_ ?_
    · rintro i x σ H2 H3 hi ⟨s4, s5, s6, s7, es, gs, rfl, s2, hp2, hel, hq2, hgl⟩ ⟨t, x1, x2, rfl, ht, rfl, e1, e2⟩
      have sT := sm_new (o := .tup [x1, x2]) ht
      have ht3 : (upd H2 t (.tup [x1, x2])) t = some (.tup [x1, x2]) := upd_same
      have hp3 := sT _ _ hp2
      have hq3 := sT _ _ hq2
      have s3 := s2.trans sT
      generalize upd H2 t (.tup [x1, x2]) = H3 at ht3 hp3 hq3 s3 ⊢
      obtain ⟨t1, rfl, ht1⟩ := hss.2 i x1 e1
      have hin : i < ns.length := by rw [← hgp.1]; exact (List.getElem?_eq_some_iff.mp e2).1
      obtain ⟨n, hn⟩ : ∃ n, ns[i]? = some n := ⟨_, List.getElem?_eq_getElem hin⟩
      have hg3 := (hgp.2 i x2 n e2 hn).same s3
      obtain ⟨pp, r, cc, b, ms, f, tg, rfl, hpp, hrd, hgd, rfl, hcc⟩ := id hg3
      have hb1 := take_sum_le ns (i + 1)
      have hb2 := take_sum_succ hn
      refine ⟨t, _, rfl, .inl (.inl ht3), rfl, _, _, rfl, ⟨t1, _, rfl, SqT.of (s3 _ _ ht1), rfl, _, _, rfl, _, _, rfl, rfl, _, _, rfl, rfl, ?_⟩⟩
      refine ⟨_, rfl, pp, _, 2, _, rfl, rfl, hpp, rfl, ?_⟩
      have hg4 := hg3
      have hp4 := hp3
      have hq4 := hq3
      cases b
      · refine ⟨_, rfl, iteN rfl ⟨_, rfl, ?_⟩⟩
        refine ⟨_, rfl, _, rfl, _, rfl, _, .ref pp, sg, ms.length, [c], rfl, hg4, fun d hd => by rw [List.mem_singleton.mp hd]; exact hc, by simp, fun D zs H5 s5 hD hDs hzl => ?_⟩
        have hp5 := s5 _ _ hp4
        have hq5 := s5 _ _ hq4
        refine ⟨_, rfl, ⟨_, rfl, _, rfl, ?_⟩⟩
        refine ⟨_, rfl, _, rfl, q, D, gs, zs, _, _, rfl, rfl, rfl, rfl, ne_of_none hq4 hD, hq5, hDs, Int.natCast_nonneg _, by omega, by omega, Nat.le_trans (show gs.length + zs.length ≤ 1000 by omega) (by decide), ?_⟩
        have hlen : (gs.take (((ns.take i).sum : Nat) : Int).toNat ++ zs ++ gs.drop (((ns.take (i + 1)).sum : Nat) : Int).toNat).length = ns.sum := by
          simp only [List.length_append, List.length_take, List.length_drop, Int.toNat_natCast]
          omega
        exact ⟨_, _, _, _, es, _, rfl, sm_put_own (s3.trans s5) hqH, by rw [upd_ne hqp.symm]; exact hp5, hel, upd_same, hlen⟩
      · refine ⟨_, rfl, iteB rfl ⟨_, rfl, ?_⟩⟩
        refine ⟨_, rfl, _, rfl, _, rfl, _, .ref pp, sg, ms.length, [c], rfl, hg4, fun d hd => by rw [List.mem_singleton.mp hd]; exact hc, by simp, fun D zs H5 s5 hD hDs hzl => ?_⟩
        have hp5 := s5 _ _ hp4
        have hq5 := s5 _ _ hq4
        refine ⟨_, rfl, ⟨_, rfl, _, rfl, ?_⟩⟩
        refine ⟨_, rfl, _, rfl, p, D, es, zs, _, _, rfl, rfl, rfl, rfl, ne_of_none hp4 hD, hp5, hDs, Int.natCast_nonneg _, by omega, by omega, Nat.le_trans (show es.length + zs.length ≤ 1000 by omega) (by decide), ?_⟩
        have hlen : (es.take (((ns.take i).sum : Nat) : Int).toNat ++ zs ++ es.drop (((ns.take (i + 1)).sum : Nat) : Int).toNat).length = ns.sum := by
          simp only [List.length_append, List.length_take, List.length_drop, Int.toNat_natCast]
          omega
        exact ⟨_, _, _, _, _, gs, rfl, sm_put_own (s3.trans s5) hpH, upd_same, hlen, by rw [upd_ne hqp]; exact hq5, hgl⟩
    · rintro σ H2 ⟨s4, s5, s6, s7, es, gs, rfl, s2, hp2, hel, hq2, hgl⟩
      refine ⟨_, rfl, _, rfl, by show 2 ≤ sizeLine; decide, fun t ht => ?_⟩
      exact k _ _ (sm_put' s2 ht)
theorem pq2 (v0 v1 : V) : putF ("parts" : Str) v1 ([("signs", v0)] : List (Str × V)) = ([("signs", v0), ("parts", v1)] : List (Str × V)) := putF_new fun p hp => by
  simp at hp; rcases hp with rfl; dsimp only; decide +kernel
theorem pq3 (v0 v1 v2 : V) : putF ("marks" : Str) v2 ([("signs", v0), ("parts", v1)] : List (Str × V)) = ([("signs", v0), ("parts", v1), ("marks", v2)] : List (Str × V)) := putF_new fun p hp => by
  simp at hp; rcases hp with rfl | rfl <;> (dsimp only; decide +kernel)
theorem pq4 (v0 v1 v2 v3 : V) : putF ("spans" : Str) v3 ([("signs", v0), ("parts", v1), ("marks", v2)] : List (Str × V)) = ([("signs", v0), ("parts", v1), ("marks", v2), ("spans", v3)] : List (Str × V)) := putF_new fun p hp => by
  simp at hp; rcases hp with rfl | rfl | rfl <;> (dsimp only; decide +kernel)
theorem pq5 (v0 v1 v2 v3 v4 : V) : putF ("at_first" : Str) v4 ([("signs", v0), ("parts", v1), ("marks", v2), ("spans", v3)] : List (Str × V)) = ([("signs", v0), ("parts", v1), ("marks", v2), ("spans", v3), ("at_first", v4)] : List (Str × V)) := putF_new fun p hp => by
  simp at hp; rcases hp with rfl | rfl | rfl | rfl <;> (dsimp only; decide +kernel)
theorem Spans.put {H : Hp} {ss : List V} {ns : List Nat} {k : Nat} {p : Addr} {o : HO} (h : Spans H ss ns k) (hn : ∀ t xs, H t = some (.tup xs) → t ≠ p) : Spans (upd H p o) ss ns k := ⟨h.1, fun i x e => let ⟨t, e1, e2⟩ := h.2 i x e; ⟨t, e1, by rw [upd_ne (hn t _ e2)]; exact e2⟩⟩
abbrev s_pinit : Stmt := inClass (top 32) 0
abbrev n_pinit : List Str := ["self", "signs", "parts", "part", "begin", "sign"]
theorem sc_pinit : FnScope n_pinit ["self", "signs", "parts"] (fnScope s_pinit) := fnScope_by (by decide +kernel)
def spPInit (K : PySem.W.Frag) (C C2 C3 : Addr) : Sp := fun vs H Q _ => ∃ (a dx pt : Addr) (sg : List Nat) (xs : List V) (ns : List Nat) (H0 : Hp), vs = [.ref a, .str (S sg), .ref pt] ∧ H a = some (.ins C3 dx []) ∧ Same H0 H ∧ H0 a = none ∧ SqT K H0 pt xs ∧ GParts K C C2 H0 xs sg ns ∧ ns.sum ≤ 400 ∧ ns.length ≤ 20 ∧ Sg sg ∧
  ∀ H', Same H0 H' → Q .non H'
theorem ok_pinit {C C2 C3 : Addr} (T : BT mg) (CH : CR K C) (CP_ : CP K C3) (c_stepof : Met P w K mg base 4 C3 "_step_of" (spStepof K C C2 C3) []) (M : Mk K C3 f) (hm : mg "Placing" = some (.ref C3)) {fd : FuncData} (F : C8.Fun K "__init__" "Placing.__init__" s_pinit f fd) (b : Binds K fd ["self", "signs", "parts"] []) : Mak P w K mg base 6 "Placing" C3 (spPInit K C C2 C3) [] := by
  refine mak0 M hm F b .nil sc_pinit (fun vs H Q E h => ?_) (fun cdv A outer s H vs Q E hr h => ?_)
  · obtain ⟨a, dx, pt, sg, xs, ns, H0, rfl, _⟩ := h; rfl
  · obtain ⟨a, dx, pt, sg, xs, ns, H0, rfl, ha, s0, ha0, hpt, hgp, h400, h20, hsg, k⟩ := h
    refine ⟨_, (pss_cons (ps_fld (pv 0) (pv 1) rfl)
      (pss_cons (ps_fld (pv 0) (pv 2) rfl)
      (pss_cons (ps_fld (pv 0) (pe_lst pa_nil) rfl)
      (pss_cons (ps_fld (pv 0) (pe_lst pa_nil) rfl)
      (pss_cons (ps_for PassesOwn.never rfl (pi_tup (pv 2)) (pg_name (i := 3) sc_pinit.nd rfl (.inl rfl)) 
        (pss_cons (ps_set (i := 4) sc_pinit.nd rfl (.inl rfl) (pe_callB (lenK K) (by rfl) T.m_len PySem.boot_len (pa_cons (fldK K (pv 0) rfl) pa_nil)))
        (pss_cons (ps_expr (pe_bm PySem.F.plainAttrs_list PySem.F.slot_list_extend PySem.F.type_list_extend mt_extendT (fldK K (pv 0) rfl) (pa_cons (fldK K (pe_ix (ixt K) (pv 3) pe_int (fun _ _ => rfl)) rfl) pa_nil)))
        (pss_one (ps_expr (pe_bm PySem.F.plainAttrs_list PySem.F.slot_list_append PySem.F.type_list_append mt_append (fldK K (pv 0) rfl) (pa_cons (pe_tup (pa_cons (pv 4) (pa_cons (pe_callB (lenK K) (by rfl) T.m_len PySem.boot_len (pa_cons (fldK K (pv 0) rfl) pa_nil)) pa_nil))) pa_nil)))
        ))))
      (pss_cons (ps_fld (pv 0) (pe_tupRg rfl (by rfl) T.m_tuple (prg_1 (by rfl) T.m_range (pe_callB (lenK K) (by rfl) T.m_len PySem.boot_len (pa_cons (fldK K (pv 0) rfl) pa_nil)))) rfl)
      (pss_one (ps_fld (pv 0) (pe_lc (own := [("sign", 5)]) rfl sc_pinit.nd (pi_str (pv 1)) (blkOk_by (N := n_pinit) (sc := fnScope s_pinit) (by decide +kernel)) (fun _ _ _ _ _ => (pg_name (i := 5) sc_pinit.nd rfl (.inl rfl))) (fun _ _ _ _ _ => pts_nil) (fun _ _ _ _ _ => (pe_mt c_stepof hr (by decide) (pv 0) (pa_cons (pv 5) pa_nil)))) rfl)
      ))))))), ?_⟩
    refine ⟨_, rfl, _, rfl, a, C3, dx, [], rfl, ha, CP_.cl, CP_.nS, (by show 0 < 1000; decide), ?_⟩
    have s1 : Same H0 (upd H a (.ins C3 dx (putF ("signs" : Str) (.str (S sg)) []))) := sm_put_own s0 ha0
    have ha1 : (upd H a (.ins C3 dx (putF ("signs" : Str) (.str (S sg)) []))) a = some (.ins C3 dx [("signs", .str (S sg))]) := upd_same
    generalize upd H a (.ins C3 dx (putF ("signs" : Str) (.str (S sg)) [])) = H1 at s1 ha1 ⊢
    refine ⟨_, rfl, _, rfl, a, C3, dx, _, rfl, ha1, CP_.cl, CP_.nP, (by show 1 < 1000; decide), ?_⟩
    rw [pq2]
    have s2 : Same H0 (upd H1 a (.ins C3 dx [("signs", .str (S sg)), ("parts", .ref pt)])) := sm_put_own s1 ha0
    have ha2 : (upd H1 a (.ins C3 dx [("signs", .str (S sg)), ("parts", .ref pt)])) a = some (.ins C3 dx [("signs", .str (S sg)), ("parts", .ref pt)]) := upd_same
    generalize upd H1 a (.ins C3 dx [("signs", .str (S sg)), ("parts", .ref pt)]) = H2 at s2 ha2 ⊢
    refine ⟨by show 0 ≤ sizeLine; decide, fun m hm => ?_⟩
    have hm0 : H0 m = none := s2.free hm
    have nma : m ≠ a := (ne_of_none ha2 hm).symm
    refine ⟨_, rfl, a, C3, dx, _, rfl, (by rw [upd_ne nma.symm]; exact ha2), CP_.cl, CP_.nM, (by show 2 < 1000; decide), ?_⟩
    rw [pq3]
    have s3 : Same H0 (upd (upd H2 m (.lst [])) a (.ins C3 dx [("signs", .str (S sg)), ("parts", .ref pt), ("marks", .ref m)])) := sm_put_own (sm_put_own s2 hm0) ha0
    have ha3 : (upd (upd H2 m (.lst [])) a (.ins C3 dx [("signs", .str (S sg)), ("parts", .ref pt), ("marks", .ref m)])) a = some (.ins C3 dx [("signs", .str (S sg)), ("parts", .ref pt), ("marks", .ref m)]) := upd_same
    have hm3 : (upd (upd H2 m (.lst [])) a (.ins C3 dx [("signs", .str (S sg)), ("parts", .ref pt), ("marks", .ref m)])) m = some (.lst []) := by rw [upd_ne nma, upd_same]
    generalize upd (upd H2 m (.lst [])) a (.ins C3 dx [("signs", .str (S sg)), ("parts", .ref pt), ("marks", .ref m)]) = H3 at s3 ha3 hm3 ⊢
    refine ⟨by show 0 ≤ sizeLine; decide, fun sp hsp => ?_⟩
    have hsp0 : H0 sp = none := s3.free hsp
    have nsa : sp ≠ a := (ne_of_none ha3 hsp).symm
    have nsm : sp ≠ m := (ne_of_none hm3 hsp).symm
    refine ⟨_, rfl, a, C3, dx, _, rfl, (by rw [upd_ne nsa.symm]; exact ha3), CP_.cl, CP_.nN, (by show 3 < 1000; decide), ?_⟩
    rw [pq4]
    have s4 : Same H0 (upd (upd H3 sp (.lst [])) a (.ins C3 dx (plF sg pt m sp))) := sm_put_own (sm_put_own s3 hsp0) ha0
    have ha4 : (upd (upd H3 sp (.lst [])) a (.ins C3 dx (plF sg pt m sp))) a = some (.ins C3 dx (plF sg pt m sp)) := upd_same
    have hm4 : (upd (upd H3 sp (.lst [])) a (.ins C3 dx (plF sg pt m sp))) m = some (.lst []) := by rw [upd_ne nma, upd_ne nsm.symm]; exact hm3
    have hsp4 : (upd (upd H3 sp (.lst [])) a (.ins C3 dx (plF sg pt m sp))) sp = some (.lst []) := by rw [upd_ne nsa, upd_same]
    rw [show ([("signs", .str (S sg)), ("parts", .ref pt), ("marks", .ref m), ("spans", .ref sp)] : List (Str × V)) = plF sg pt m sp from rfl]
    generalize upd (upd H3 sp (.lst [])) a (.ins C3 dx (plF sg pt m sp)) = H4 at s4 ha4 hm4 hsp4 ⊢
    clear hm hsp ha1 ha2 ha3 hm3 s1 s2 s3 H1 H2 H3
    have hxl := hgp.1
    refine ⟨_, rfl, pt, rfl, ⟨_, sm_seqT s4 hpt⟩, for_it (walk_tup (K := K) (a := pt) (xs := xs)) (fun i σ H' => ∃ (s3 s4 s5 : Option V) (es ss : List V), σ = [some (.ref a), some (.str (S sg)), some (.ref pt), s3, s4, s5] ∧ Same H0 H' ∧ H' a = some (.ins C3 dx (plF sg pt m sp)) ∧ H' m = some (.lst es) ∧ es.length = (ns.take i).sum ∧ H' sp = some (.lst ss) ∧ Spans H' ss ns i)
      ⟨_, _, _, [], [], rfl, s4, ha4, hm4, by simp, hsp4, rfl, fun i x e => by simp at e⟩ (fun _ _ _ _ ⟨_, _, _, _, _, _, e, _⟩ => sm_seqT e hpt) ?_ ?_⟩
    · rintro i x σ H5 H5' hi ⟨s3, s4, s5, es, ss, rfl, s6, ha5, hm5, hel, hsp5, hsn⟩ ⟨rfl, e2⟩
      have hin : i < ns.length := by rw [← hgp.1]; exact (List.getElem?_eq_some_iff.mp e2).1
      obtain ⟨n, hn⟩ : ∃ n, ns[i]? = some n := ⟨_, List.getElem?_eq_getElem hin⟩
      obtain ⟨pp, r, cc, b, ms, f, tg, rfl, hpp, hrd, hgd, rfl, hcc⟩ := (hgp.2 i x n e2 hn).same s6
      obtain ⟨rx, mt, st, nu, le, sa, la, co, ca, hra, hcol⟩ := id hrd
      have hb1 := take_sum_le ns (i + 1)
      have hb2 := take_sum_succ hn
      have h60 := hgd.h8
      refine ⟨_, rfl, a, C3, dx, _, _, rfl, ha5, CP_.cl, CP_.nM, (show _ = some (V.ref m) by rfl), m, _, rfl, .inl (SqL.of hm5), ?_⟩
      refine ⟨_, rfl, a, C3, dx, _, _, rfl, ha5, CP_.cl, CP_.nM, (show _ = some (V.ref m) by rfl), .inl ⟨rfl, _, SqL.of hm5⟩, ?_⟩
      refine ⟨_, rfl, pp, _, 0, _, rfl, rfl, hpp, rfl, ?_⟩
      refine ⟨r, C, rx, _, _, rfl, hra.ha, CH.cl, CH.nM, rl_marks, ?_⟩
      refine ⟨m, mt, es, txs ms, rfl, rfl, hm5, hra.hm, Nat.le_trans (show es.length + (txs ms).length ≤ 1000 by rw [txs_len]; omega) (by decide), ?_⟩
      have nma5 : m ≠ a := nma
      have s7 : Same H0 (upd H5' m (.lst (es ++ txs ms))) := sm_put_own s6 hm0
      have ha6 : (upd H5' m (.lst (es ++ txs ms))) a = some (.ins C3 dx (plF sg pt m sp)) := by rw [upd_ne nma.symm]; exact ha5
      have hm6 : (upd H5' m (.lst (es ++ txs ms))) m = some (.lst (es ++ txs ms)) := upd_same
      have hsp6 : (upd H5' m (.lst (es ++ txs ms))) sp = some (.lst ss) := by rw [upd_ne nsm]; exact hsp5
      have hss6 : Spans (upd H5' m (.lst (es ++ txs ms))) ss ns i := hsn.put fun t ys e => ne_of e hm5 (by intro h; cases h)
      generalize upd H5' m (.lst (es ++ txs ms)) = H6 at s7 ha6 hm6 hsp6 hss6 ⊢
      have hel6 : (es ++ txs ms).length = (ns.take (i + 1)).sum := by rw [List.length_append, txs_len]; omega
      refine ⟨_, rfl, a, C3, dx, _, _, rfl, ha6, CP_.cl, CP_.nN, (show _ = some (V.ref sp) by rfl), .inl ⟨rfl, _, SqL.of hsp6⟩, ?_⟩
      refine ⟨_, rfl, _, rfl, a, C3, dx, _, _, rfl, ha6, CP_.cl, CP_.nM, (show _ = some (V.ref m) by rfl), m, _, rfl, .inl (SqL.of hm6), ?_⟩
      refine ⟨by show 2 ≤ sizeLine; decide, fun t ht => ?_⟩
      have ht0 := s7.free ht
      have nta : a ≠ t := ne_of_none ha6 ht
      have ntm : m ≠ t := ne_of_none hm6 ht
      have nts : sp ≠ t := ne_of_none hsp6 ht
      refine ⟨sp, ss, _, rfl, rfl, by rw [upd_ne nts]; exact hsp6, by rw [hss6.1]; exact small1000 (by omega), ?_⟩
      refine ⟨_, _, _, es ++ txs ms, _, rfl, sm_put_own (sm_put_own s7 ht0) hsp0, by rw [upd_ne nsa.symm, upd_ne nta]; exact ha6, by rw [upd_ne nsm.symm, upd_ne ntm]; exact hm6, hel6, upd_same, by rw [List.length_append, hss6.1]; rfl, fun j y e => ?_⟩
      by_cases hj : j < ss.length
      · rw [List.getElem?_append_left hj] at e
        obtain ⟨u, rfl, hu⟩ := hss6.2 j y e
        exact ⟨u, rfl, by rw [upd_ne (ne_of hu hsp6 (by intro h; cases h)), upd_ne (ne_of_none hu ht)]; exact hu⟩
      · have hj2 : j = i := by
          have := (List.getElem?_eq_some_iff.mp e).1
          rw [List.length_append, hss6.1] at this
          have := hss6.1
          simp at *
          omega
        subst hj2
        rw [List.getElem?_append_right (by omega), hss6.1] at e
        simp at e
        subst e
        refine ⟨t, rfl, ?_⟩
        rw [upd_ne nts.symm, upd_same, hel6, hel]
        rfl
    · rintro σ H5 ⟨s3, s4, s5, es, ss, rfl, s6, ha5, hm5, hel, hsp5, hsn⟩
      rw [hxl] at hel hsn
      have hel : es.length = ns.sum := by rw [hel, List.take_length]
      refine ⟨_, rfl, a, C3, dx, _, _, rfl, ha5, CP_.cl, CP_.nM, (show _ = some (V.ref m) by rfl), m, _, rfl, .inl (SqL.of hm5), ?_⟩
      refine ⟨_, rfl, ?_⟩
      refine ⟨RgOk.of_le (by omega) (by omega) (by omega) (by omega), fun af haf => ?_⟩
      have haf0 := s6.free haf
      have nafa : a ≠ af := ne_of_none ha5 haf
      have nafs : sp ≠ af := ne_of_none hsp5 haf
      refine ⟨_, rfl, a, C3, dx, _, rfl, (by rw [upd_ne nafa]; exact ha5), CP_.cl, CP_.nA, (by show 4 < 1000; decide), ?_⟩
      rw [show putF ("at_first" : Str) (.ref af) (plF sg pt m sp) = plF5 sg pt m sp af from pq5 _ _ _ _ _]
      have s7 : Same H0 (upd (upd H5 af (.tup (rgV 0 (es.length : Nat)))) a (.ins C3 dx (plF5 sg pt m sp af))) := sm_put_own (sm_put_own s6 haf0) ha0
      have ha6 : (upd (upd H5 af (.tup (rgV 0 (es.length : Nat)))) a (.ins C3 dx (plF5 sg pt m sp af))) a = some (.ins C3 dx (plF5 sg pt m sp af)) := upd_same
      have haf6 : (upd (upd H5 af (.tup (rgV 0 (es.length : Nat)))) a (.ins C3 dx (plF5 sg pt m sp af))) af = some (.tup (rgV 0 (es.length : Nat))) := by rw [upd_ne nafa.symm, upd_same]
      have hsp6 : (upd (upd H5 af (.tup (rgV 0 (es.length : Nat)))) a (.ins C3 dx (plF5 sg pt m sp af))) sp = some (.lst ss) := by rw [upd_ne nsa, upd_ne nafs]; exact hsp5
      have hss6 : Spans (upd (upd H5 af (.tup (rgV 0 (es.length : Nat)))) a (.ins C3 dx (plF5 sg pt m sp af))) ss ns ns.length := (hsn.put fun t ys e => ne_of_none e haf).put fun t ys e => ne_of e (show (upd H5 af (.tup (rgV 0 (es.length : Nat)))) a = some (.ins C3 dx (plF sg pt m sp)) by rw [upd_ne nafa]; exact ha5) (by intro h; cases h)
      generalize upd (upd H5 af (.tup (rgV 0 (es.length : Nat)))) a (.ins C3 dx (plF5 sg pt m sp af)) = H6 at s7 ha6 haf6 hsp6 hss6 ⊢
      have hfl : (rgV 0 (es.length : Nat)).length = ns.sum := by rw [rgV_tI, tI_len, List.length_range]; exact hel
      have hs3 := hsg.2.2.1
      refine ⟨_, rfl, S sg, rfl, fun D hD => lc_keep keep_same walk_str hD (by show sg.length < sizeLine; exact small1000 (by omega)) (fun _ _ => True) (fun _ _ => trivial) (fun j z H7 H7' R hj r3 hy hR => ?_) (fun zs H7 hlz hgz r3 hDz => ?_)⟩
      · obtain ⟨rfl, c, hc, rfl⟩ := hy
        have hc' : sg[j]? = some c := by simpa [S] using hc
        refine ⟨rfl, ?_⟩
        refine ⟨_, rfl, a, dx, _, rfl, r3 _ _ ha6, (show _ = none by rfl), _, rfl, ?_⟩
        exact ⟨a, dx, pt, m, sp, af, sg, c, xs, ss, _, ns, rfl, r3 _ _ ha6, sm_seqT (s7.trans r3) hpt, hgp.same (s7.trans r3), r3 _ _ hsp6, hss6.same r3, r3 _ _ haf6, hfl, h400, h20, List.mem_of_getElem? hc', fun v H8 s8 => hR _ _ s8 trivial⟩
      · refine ⟨_, rfl, a, C3, dx, _, rfl, r3 _ _ ha6, CP_.cl, CP_.nT, (by show 5 < 1000; decide), ?_⟩
        exact k _ (sm_put_own (s7.trans r3) ha0)
end
end Toy
set_option maxHeartbeats 2000000
namespace Toy
open PySem L2 C8 SX LX
local macro_rules | `(tactic| walk_at "c") => `(tactic| refine And.intro (by first | (show (0 : Int) < _; omega) | exact Or.inr ⟨by decide, by decide⟩ | exact Or.inl ⟨by decide, by decide⟩ | (exact ⟨by omega, by omega⟩)) ?_)
local macro_rules | `(tactic| walk_at "s1") => `(tactic| first | refine ⟨_, rfl, ?_⟩ | refine ⟨_, _, rfl, rfl, ?_⟩ | refine .inl ⟨_, rfl, ?_⟩ | walk_at "c")
local macro_rules | `(tactic| walk_at "s") => `(tactic| repeat (walk_at "s1"))
structure XQ (K : PySem.W.Frag) (mg : Str → Option Value) (n : Str) (C : Addr) : Prop where
  x : XC K C
  g : mg n = some (.ref C)
def spXInit (C : Addr) (f : Str) : Sp := fun vs H Q _ => ∃ (a : Addr) (v : V), vs = [.ref a, v] ∧ H a = some (exo a C none) ∧ ∀ dx, H dx = none → dx ≠ a → Q .non (upd (upd H dx (exd dx [(f, v)])) a (exo a C (some dx)))
theorem exo_ne_exd {a C d : Addr} {dd : Option Addr} {fs : List (Str × V)} {H : Hp} (h1 : H a = none) : (upd H a (exo a C dd)) a ≠ none := by rw [upd_same]; simp
theorem raise_read {C : Addr} {f : Str} {v : V} {H : Hp} {Q : XK} (k : ∀ d, H d = none → Q (.ref C) (some d) (upd H d (.xd [(f, v)]))) (a : Addr) (ha : H a = none) :
    spXInit C f (.ref a :: ([v] ++ [])) (upd H a (exo a C none)) (fun v H2 => v = .non ∧ ∃ (d : Addr) (fs : List (Str × V)), H2 a = some (exo a C (some d)) ∧ H2 d = some (exd d fs) ∧ H d = none ∧ Q (.ref C) (some d) (upd (del H2 a) d (.xd fs))) (fun _ _ _ => False) := by
  refine ⟨a, v, rfl, upd_same, fun dx hdx nda => ⟨rfl, dx, [(f, v)], upd_same, by rw [upd_ne nda, upd_same], by rw [upd_ne nda] at hdx; exact hdx, ?_⟩⟩
  rw [upd_ne nda] at hdx
  have e : upd (del (upd (upd (upd H a (exo a C none)) dx (exd dx [(f, v)])) a (exo a C (some dx))) a) dx (.xd [(f, v)]) = upd H dx (.xd [(f, v)]) := by
    funext b
    by_cases h1 : b = dx
    · rw [h1, upd_same, upd_same]
    · rw [upd_ne h1, upd_ne h1]
      by_cases h2 : b = a
      · rw [h2, del_same, ha]
      · rw [del_ne h2, upd_ne h2, upd_ne h1, upd_ne h2]
  rw [e]
  exact k dx hdx
structure XG (mg : Str → Option Value) (n : Str) (C : Addr) : Prop where
  g : mg n = some (.ref C)
section
variable {P : Program} {w : World} {K : PySem.W.Frag} {mg : Str → Option Value} {base : Heap}
abbrev s_xis : Stmt := inClass (top 5) 0
abbrev n_xis : List Str := ["self", "word"]
theorem sc_xis : FnScope n_xis ["self", "word"] (fnScope s_xis) := fnScope_by (by decide +kernel)
theorem ok_xis {C : Addr} (x_ : XQ K mg "InvalidSight" C) (n_ : PySem.W.findIn K (.ref C) "word" = some none) {f : Addr} (iC : PySem.W.findIn K (.ref C) "__init__" = some (some (.ref f))) (tI : PySem.W.typeIn K (.ref f) = some (.type "function")) {fd : FuncData} (F : C8.Fun K "__init__" "InvalidSight.__init__" s_xis f fd) (b : Binds K fd ["self", "word"] []) : RaiX P w K mg base 1 "InvalidSight" C (spXInit C "word") := by
  refine raiX x_.x iC tI x_.g F b sc_xis (fun vs H Q E h => ?_) (fun cdv A outer s H vs Q E hr h => ?_)
  · obtain ⟨a, v, rfl, _⟩ := h; rfl
  · obtain ⟨a, v, rfl, ha, k⟩ := h
    refine ⟨_, (pss_one (ps_ostG (pv 0) (pv 1))
      ), ?_⟩
    exact ⟨_, rfl, _, rfl, a, C, rfl, x_.x, n_, ha, fun dx h1 h2 => k dx h1 h2⟩
end
inductive K0 (K : PySem.W.Frag) (C : Addr) (H : Hp) : V → Option (List Nat) → Prop
  | rd {r : Addr} {sg : List Nat} {ms : List (List Nat)} {f : List Nat} {tg : List Nat → Nat → List Nat} (h : Rdr C H r sg ms f tg) : K0 K C H (.ref r) (some sg)
  | no {v : V} {t : Value} (h : ∀ H', TyX K H' v t) (k : PySem.W.kitOne K t (.ref C) = some false) : K0 K C H v none
inductive K1 (K : PySem.W.Frag) (C2 : Addr) (H : Hp) : V → Option (Option (List Nat)) → Prop
  | non : K1 K C2 H .non none
  | ch {q : Addr} {sg : List Nat} {ims : List (List Nat)} (h : Chg C2 H q sg ims) : K1 K C2 H (.ref q) (some (some sg))
  | no {v : V} {t : Value} (h : ∀ H', TyX K H' v t) (n : v ≠ .non) (k : PySem.W.kitOne K t (.ref C2) = some false) : K1 K C2 H v (some none)
inductive K2 (K : PySem.W.Frag) : V → Bool → Prop
  | bl (b : Bool) : K2 K (.bl b) true
  | no {v : V} {t : Value} (h : ∀ H', TyX K H' v t) (k : PySem.W.kitOne K t (.type "bool") = some false) : K2 K v false
def ok3 (sg : List Nat) (o0 : Option (List Nat)) (o1 : Option (Option (List Nat))) (b2 : Bool) : Bool := decide (o0 = some sg) && (b2 && match o1 with
  | none => true
  | some x => decide (x = some sg))
inductive PartV (K : PySem.W.Frag) (C C2 : Addr) (H : Hp) (sg : List Nat) : V → Bool → Prop
  | nt {v : V} {t : Value} (h : ∀ H', Same H H' → TyX K H' v t) (k : PySem.W.kitOne K t (.type "tuple") = some false) : PartV K C C2 H sg v false
  | len {p : Addr} {xs : List V} (h : SqT K H p xs) (n : xs.length ≠ 3) : PartV K C C2 H sg (.ref p) false
  | t3 {p : Addr} {x0 x1 x2 : V} {o0 : Option (List Nat)} {o1 : Option (Option (List Nat))} {b2 : Bool} (h : SqT K H p [x0, x1, x2]) (h0 : K0 K C H x0 o0) (h1 : K1 K C2 H x1 o1) (h2 : K2 K x2 b2) : PartV K C C2 H sg (.ref p) (ok3 sg o0 o1 b2)
theorem K0.same {K : PySem.W.Frag} {C : Addr} {H H' : Hp} {v : V} {o : Option (List Nat)} (h : K0 K C H v o) (s : Same H H') : K0 K C H' v o := by
  cases h with
  | rd h => exact .rd (h.same s)
  | no h k => exact .no h k
theorem K1.same {K : PySem.W.Frag} {C : Addr} {H H' : Hp} {v : V} {o : Option (Option (List Nat))} (h : K1 K C H v o) (s : Same H H') : K1 K C H' v o := by
  cases h with
  | non => exact .non
  | ch h => exact .ch (h.same s)
  | no h n k => exact .no h n k
theorem PartV.same {K : PySem.W.Frag} {C C2 : Addr} {H H' : Hp} {sg : List Nat} {v : V} {b : Bool} (h : PartV K C C2 H sg v b) (s : Same H H') : PartV K C C2 H' sg v b := by
  cases h with
  | nt h k => exact .nt (fun H2 s2 => h H2 (s.trans s2)) k
  | len h n => exact .len (sm_seqT s h) n
  | t3 h h0 h1 h2 => exact .t3 (sm_seqT s h) (h0.same s) (h1.same s) h2
theorem GPart.part {K : PySem.W.Frag} {C C2 : Addr} {H : Hp} {v : V} {sg : List Nat} {n : Nat} (h : GPart K C C2 H v sg n) : PartV K C C2 H sg v true := by
  obtain ⟨p, r, c, b, ms, f, tg, rfl, hp, hrd, hgd, rfl, hc⟩ := h
  rcases hc with rfl | ⟨q, ims, rfl, hch, hi⟩
  · have e : ok3 sg (some sg) none true = true := by simp [ok3]
    have := PartV.t3 (sg := sg) (C := C) (C2 := C2) hp (.rd hrd) .non (.bl b)
    rw [e] at this; exact this
  · have e : ok3 sg (some sg) (some (some sg)) true = true := by simp [ok3]
    have := PartV.t3 (sg := sg) (C := C) (C2 := C2) hp (.rd hrd) (.ch hch) (.bl b)
    rw [e] at this; exact this
section
variable {P : Program} {w : World} {K : PySem.W.Frag} {mg : Str → Option Value} {base : Heap}
abbrev s_istup : Stmt := top 12
abbrev n_istup : List Str := ["value", "many"]
theorem sc_istup : FnScope n_istup ["value", "many"] (fnScope s_istup) := fnScope_by (by decide +kernel)
def spIsTup (K : PySem.W.Frag) : Sp := fun vs H Q _ => ∃ v : V, vs = [v, .int 3] ∧ ((∃ t : Value, TyX K H v t ∧ PySem.W.kitOne K t (.type "tuple") = some false ∧ Q (.bl false) H) ∨ (∃ (p : Addr) (xs : List V), v = .ref p ∧ SqT K H p xs ∧ Q (.bl (decide (xs.length = 3))) H))
theorem ok_istup (T : BT mg) {f : Addr} {fd : FuncData} (F : Def K mg "is_tuple_of" s_istup f fd) (b : Binds K fd ["value", "many"] []) : Cal P w K mg base 1 "is_tuple_of" (spIsTup K) [] := by
  refine cal0 F b .nil sc_istup (fun vs H Q E h => ?_) (fun cdv A outer s H vs Q E hr h => ?_)
  · obtain ⟨v, rfl, _⟩ := h; rfl
  · obtain ⟨v, rfl, h⟩ := h
    refine ⟨_, (pss_one (ps_ret (pe_and (pe_callB (isiK K) (by rfl) T.m_isinstance PyProof.Rows.boot_isinstance (pa_cons (pv 0) (pa_cons (pe_bltn (v := .ty "tuple") (by rfl) T.m_tuple PyProof.Rows.boot_tuple rfl) pa_nil))) (pe_one (pe_cmpR op_eq (pe_callB (lenK K) (by rfl) T.m_len PySem.boot_len (pa_cons (pv 0) pa_nil)) (pv 1) (nomark _)))))
      ), ?_⟩
    rcases h with ⟨t, ty, hk, q⟩ | ⟨p, xs, rfl, hp, q⟩
    · exact ⟨_, rfl, _, _, _, _, false, rfl, .ty _, ty, hk, false, rfl, iteN rfl q⟩
    · refine ⟨_, rfl, _, _, _, _, true, rfl, .ty _, ty_seqT hp, kit_ty (a := "tuple") (by decide +kernel), true, rfl, iteT ?_⟩
      refine ⟨_, rfl, p, _, rfl, .inr hp, _, rfl, rfl, ?_⟩
      have e : V.bl (decide (V.int (xs.length : Nat) = V.int 3)) = V.bl (decide (xs.length = 3)) := congrArg V.bl (decide_eq_decide.mpr ⟨fun h => by have := V.int.inj h; omega, fun h => by rw [h]; rfl⟩)
      show Q (V.bl (decide (V.int (xs.length : Nat) = V.int 3))) H
      rw [e]
      exact q
abbrev s_ispart : Stmt := top 37
abbrev n_ispart : List Str := ["value", "signs"]
theorem sc_ispart : FnScope n_ispart ["value", "signs"] (fnScope s_ispart) := fnScope_by (by decide +kernel)
def spIsPart (K : PySem.W.Frag) (C C2 : Addr) : Sp := fun vs H Q _ => ∃ (v : V) (sg : List Nat) (b : Bool), vs = [v, .str (S sg)] ∧ PartV K C C2 H sg v b ∧ Q (.bl b) H
theorem ok_ispart {C C2 : Addr} (T : BT mg) (CH : CR K C) (CH2 : CC K C2) (insC : InsC K C) (insC2 : InsC K C2) (mgC : mg "Reader" = some (.ref C)) (mgC2 : mg "Change" = some (.ref C2)) (c_istup : Cal P w K mg base 1 "is_tuple_of" (spIsTup K) []) {f : Addr} {fd : FuncData} (F : Def K mg "_is_part" s_ispart f fd) (b : Binds K fd ["value", "signs"] []) : Cal P w K mg base 2 "_is_part" (spIsPart K C C2) [] := by
  refine cal0 F b .nil sc_ispart (fun vs H Q E h => ?_) (fun cdv A outer s H vs Q E hr h => ?_)
  · obtain ⟨v, sg, b, rfl, _⟩ := h; rfl
  · obtain ⟨v, sg, b, rfl, hv, k⟩ := h
    refine ⟨_, (pss_cons (ps_if (PW.pt (pw_or (pt_not (pt_val (pe_c c_istup hr (by first | decide | omega) (by rfl) (pa_cons (pv 0) (pa_cons pe_int pa_nil))))) (pw_or (pt_not (pt_val (pe_callB (isiK K) (by rfl) T.m_isinstance PyProof.Rows.boot_isinstance (pa_cons (pe_ix (ixt K) (pv 0) pe_int (fun _ _ => rfl)) (pa_cons (pe_glob (v := .ref C) (by rfl) mgC rfl) pa_nil))))) (pw_or1 (pt_not (pt_val (pe_callB (isiK K) (by rfl) T.m_isinstance PyProof.Rows.boot_isinstance (pa_cons (pe_ix (ixt K) (pv 0) pe_int (fun _ _ => rfl)) (pa_cons (pe_bltn (v := .ty "bool") (by rfl) T.m_bool PyProof.Rows.boot_bool rfl) pa_nil))))))))) 
        (pss_one (ps_ret pe_bl)
        )
       pss_nil)
      (pss_cons (ps_if (PW.pt (pw_and (pt_cmpR op_notN (pe_ix (ixt K) (pv 0) pe_int (fun _ _ => rfl)) pe_non (nomark _)) (pw_and1 (PW.pt (pw_or (pt_not (pt_val (pe_callB (isiK K) (by rfl) T.m_isinstance PyProof.Rows.boot_isinstance (pa_cons (pe_ix (ixt K) (pv 0) pe_int (fun _ _ => rfl)) (pa_cons (pe_glob (v := .ref C2) (by rfl) mgC2 rfl) pa_nil))))) (pw_or1 (pt_cmpR op_ne (fldK K (pe_ix (ixt K) (pv 0) pe_int (fun _ _ => rfl)) rfl) (pv 1) (nomark _)))))))) 
        (pss_one (ps_ret pe_bl)
        )
       pss_nil)
      (pss_one (ps_ret (pe_cmpR op_eq (fldK K (pe_ix (ixt K) (pv 0) pe_int (fun _ _ => rfl)) rfl) (pv 1) (nomark _)))
      ))), ?_⟩
    cases hv with
    | nt hty hk => exact ⟨_, rfl, v, rfl, .inl ⟨_, hty H (Same.refl H), hk, ⟨false, rfl, iteB rfl k⟩⟩⟩
    | @len p xs hp hn => exact ⟨_, rfl, .ref p, rfl, .inr ⟨p, xs, rfl, hp, ⟨_, rfl, iteB (by rw [decide_eq_false hn]; rfl) k⟩⟩⟩
    | @t3 p x0 x1 x2 o0 o1 b2 hp h0 h1 h2 =>
      refine ⟨_, rfl, .ref p, rfl, .inr ⟨p, _, rfl, hp, ⟨_, rfl, iteN rfl ?_⟩⟩⟩
      refine ⟨_, rfl, p, _, 0, _, rfl, rfl, hp, rfl, ?_⟩
      have kf : ok3 sg o0 o1 b2 = false → Q (.bl false) H := fun e => by rw [e] at k; exact k
      cases h0 with
      | no hty hk => exact ⟨_, _, _, _, false, rfl, .own C, hty H, hk, ⟨false, rfl, iteB rfl (kf (by simp [ok3]))⟩⟩
      | @rd r sg2 ms f tg hrd =>
      obtain ⟨rx, mt, st, nu, le, sa, la, co, ca, hra, hcol⟩ := id hrd
      refine ⟨_, _, _, _, true, rfl, .own C, .base (.ins hra.ha insC.cl insC.ha insC.hn insC.htk insC.hm), insC.me, ⟨true, rfl, iteN rfl ?_⟩⟩
      refine ⟨_, rfl, p, _, 2, _, rfl, rfl, hp, rfl, ?_⟩
      cases h2 with
      | no hty hk => exact ⟨_, _, _, _, false, rfl, .ty _, hty H, hk, ⟨false, rfl, iteB rfl (kf (by simp [ok3]))⟩⟩
      | bl b2 =>
      refine ⟨_, _, _, _, true, rfl, .ty _, .base (.bl _), kit_ty (a := "bool") (by decide +kernel), ⟨true, rfl, iteN rfl ?_⟩⟩
      refine ⟨_, rfl, p, _, 1, _, rfl, rfl, hp, rfl, ?_⟩
      have last : ok3 sg (some sg2) o1 true = decide (sg2 = sg) → tRet (tOp rEq (tFld K (tOp (rIxT K) (tVar 0) (tC (V.int 0))) ("signs" : Str)) (tVar 1)) { nx := fun _ H' => Q V.non H', rt := Q } [some (.ref p), some (.str (S sg))] H := fun e => by
        refine ⟨_, rfl, p, _, 0, _, rfl, rfl, hp, rfl, r, C, rx, _, _, rfl, hra.ha, CH.cl, CH.nS, rl_signs, _, rfl, rfl, ?_⟩
        rw [e] at k
        have e2 : V.bl (decide (V.str (S sg2) = V.str (S sg))) = V.bl (decide (sg2 = sg)) := congrArg V.bl (decide_eq_decide.mpr ⟨fun h => by simpa [S] using V.str.inj h, fun h => by rw [h]⟩)
        show Q (V.bl (decide (V.str (S sg2) = V.str (S sg)))) H
        rw [e2]; exact k
      cases h1 with
      | non =>
        refine ⟨rfl, _, rfl, iteN rfl ?_⟩
        exact last (by simp [ok3])
      | no hty hn hk =>
        refine ⟨rfl, _, rfl, iteB (by rw [decide_eq_false hn]; rfl) ?_⟩
        refine ⟨_, rfl, p, _, 1, _, rfl, rfl, hp, rfl, ?_⟩
        exact ⟨_, _, _, _, false, rfl, .own C2, hty H, hk, ⟨false, rfl, iteB rfl (kf (by simp [ok3]))⟩⟩
      | @ch q sg3 ims hch =>
        obtain ⟨dx, rr, hq, hrr⟩ := id hch
        refine ⟨rfl, _, rfl, iteB rfl ?_⟩
        refine ⟨_, rfl, p, _, 1, _, rfl, rfl, hp, rfl, ?_⟩
        refine ⟨_, _, _, _, true, rfl, .own C2, .base (.ins hq insC2.cl insC2.ha insC2.hn insC2.htk insC2.hm), insC2.me, ⟨true, rfl, iteN rfl ?_⟩⟩
        refine ⟨_, rfl, p, _, 1, _, rfl, rfl, hp, rfl, q, C2, dx, _, _, rfl, hq, CH2.cl, CH2.nS, chF_signs _ _, _, rfl, rfl, _, rfl, ?_⟩
        by_cases e3 : sg3 = sg
        · subst e3
          exact iteN (by simp) (last (by simp [ok3]))
        · refine iteB (by simp [e3]) ?_
          exact kf (by simp [ok3, e3])
structure CSt (K : PySem.W.Frag) (C : Addr) : Prop where
  cl : Cls K C
  nS : PySem.W.findIn K (.ref C) "signs" = some none
  nP : PySem.W.findIn K (.ref C) "parts" = some none
  nG : PySem.W.findIn K (.ref C) "placing" = some none
def siF (sg : List Nat) (pt pl : Addr) : List (Str × V) := [("signs", .str (S sg)), ("parts", .ref pt), ("placing", .ref pl)]
def SightAt (C : Addr) (H : Hp) (a : Addr) (sg : List Nat) (pt : Addr) (xs : List V) : Prop := ∃ dx pl : Addr, H a = some (.ins C dx (siF sg pt pl)) ∧ H pt = some (.tup xs)
theorem SightAt.same {C a pt : Addr} {H H' : Hp} {sg : List Nat} {xs : List V} (h : SightAt C H a sg pt xs) (s : Same H H') : SightAt C H' a sg pt xs := let ⟨dx, pl, h1, h2⟩ := h; ⟨dx, pl, s _ _ h1, s _ _ h2⟩
theorem pz3 (v0 v1 v2 : V) : putF ("placing" : Str) v2 ([("signs", v0), ("parts", v1)] : List (Str × V)) = ([("signs", v0), ("parts", v1), ("placing", v2)] : List (Str × V)) := putF_new fun p hp => by
  simp at hp; rcases hp with rfl | rfl <;> (dsimp only; decide +kernel)
def BadP (K : PySem.W.Frag) (C C2 : Addr) (H : Hp) (sg : List Nat) (v : V) : Prop := (∃ t : Value, (∀ H', Same H H' → TyX K H' v t) ∧ PySem.W.kitAny K t [.type "list", .type "tuple"] = some false) ∨
  ∃ (p : Addr) (b : Bool) (xs : List V) (bs : List Bool), v = .ref p ∧ SqB K b H p xs ∧ xs.length = bs.length ∧ xs.length ≤ 20 ∧ (∀ (i : Nat) x c, xs[i]? = some x → bs[i]? = some c → PartV K C C2 H sg x c) ∧ (bs = [] ∨ false ∈ bs)
def spSInit (K : PySem.W.Frag) (C C2 CS CI : Addr) : Sp := fun vs H Q E => ∃ (a dx : Addr) (v0 v1 : V) (H0 : Hp), vs = [.ref a, v0, v1] ∧ H a = some (.ins CS dx []) ∧ Same H0 H ∧ H0 a = none ∧
  ((∃ o, Kv K H v0 o ∧ Sm o ∧ sgO o = false ∧ ∀ (d : Addr) (H' : Hp), Same H0 H' → H' d = some (.xd [("word", .str "signs")]) → E (.ref CI) (some d) H') ∨
   (∃ sg, v0 = .str (S sg) ∧ Sg sg ∧ BadP K C C2 H0 sg v1 ∧ ∀ (d : Addr) (H' : Hp), Same H0 H' → H' d = some (.xd [("word", .str "parts")]) → E (.ref CI) (some d) H') ∨
   (∃ (sg : List Nat) (p : Addr) (b : Bool) (xs : List V) (ns : List Nat), v0 = .str (S sg) ∧ Sg sg ∧ v1 = .ref p ∧ H0 p = some (seqB b xs) ∧ GParts K C C2 H0 xs sg ns ∧ 0 < ns.length ∧ ns.length ≤ 20 ∧ ns.sum ≤ 400 ∧ ∀ (pt : Addr) (H' : Hp), Same H0 H' → SightAt CS H' a sg pt xs → (b = false → pt = p) → Q .non H'))
abbrev s_sinit : Stmt := inClass (top 36) 0
abbrev n_sinit : List Str := ["self", "signs", "parts", "part"]
theorem sc_sinit : FnScope n_sinit ["self", "signs", "parts"] (fnScope s_sinit) := fnScope_by (by decide +kernel)
theorem all_mem {bs : List Bool} : bs.all id = !decide (false ∈ bs) := by
  induction bs with
  | nil => rfl
  | cons b bs ih => cases b <;> simp [ih]
theorem ok_sinit {C C2 C3 CS CI : Addr} (T : BT mg) (CS_ : CSt K CS) (c_InvalidSight : RaiX P w K mg base 1 "InvalidSight" CI (spXInit CI "word")) (c_issigns : Cal P w K mg base 3 "is_signs" (spIsSignsD K) []) (c_isseq : Cal P w K mg base 1 "is_sequence" (spIsSeqY K) []) (c_ispart : Cal P w K mg base 2 "_is_part" (spIsPart K C C2) []) (c_Placing : Mak P w K mg base 6 "Placing" C3 (spPInit K C C2 C3) []) {f : Addr} {fd : FuncData} (F : C8.Fun K "__init__" "Sight.__init__" s_sinit f fd) :
    FnOk P w K mg base (L2.CX P w) 8 f fd ["self", "signs", "parts"] (spSInit K C C2 CS CI) := by
  refine fnX F sc_sinit (fun vs H Q E h => ?_) (fun cdv A outer s H vs Q E hr h => ?_)
  · obtain ⟨a, dx, v0, v1, H0, rfl, _⟩ := h; rfl
  · obtain ⟨a, dx, v0, v1, H0, rfl, ha, s0, ha0, h⟩ := h
    refine ⟨_, (pss_cons (ps_if (pt_not (pt_val (pe_c c_issigns hr (by first | decide | omega) (by rfl) (pa_cons (pv 1) pa_nil)))) 
        (pss_one (ps_raise rfl (takes_of rfl rfl rfl rfl) (pmk_rai c_InvalidSight hr (by decide) (by rfl) (pa_cons pe_str pa_nil)))
        )
       pss_nil)
      (pss_cons (ps_if (PW.pt (pw_or (pt_not (pt_val (pe_c c_isseq hr (by first | decide | omega) (by rfl) (pa_cons (pv 2) pa_nil)))) (pw_or (pt_cmpR op_eq (pe_callB (lenK K) (by rfl) T.m_len PySem.boot_len (pa_cons (pv 2) pa_nil)) pe_int (nomark _)) (pw_or1 (pt_not (pt_val (pe_callB (cr_all rfl) (by rfl) T.m_all PyProof.Rows.boot_all (pa_cons (pe_lc (own := [("part", 3)]) rfl sc_sinit.nd (pi_seq (pv 2)) (blkOk_by (N := n_sinit) (sc := fnScope s_sinit) (by decide +kernel)) (fun _ _ _ _ _ => (pg_name (i := 3) sc_sinit.nd rfl (.inl rfl))) (fun _ _ _ _ _ => pts_nil) (fun _ _ _ _ _ => (pe_c c_ispart hr (by first | decide | omega) (by rfl) (pa_cons (pv 3) (pa_cons (pv 1) pa_nil))))) pa_nil)))))))) 
        (pss_one (ps_raise rfl (takes_of rfl rfl rfl rfl) (pmk_rai c_InvalidSight hr (by decide) (by rfl) (pa_cons pe_str pa_nil)))
        )
       pss_nil)
      (pss_cons (ps_fld (pv 0) (pv 1) rfl)
      (pss_cons (ps_fld (pv 0) (pe_callTy (tupleK K) (by rfl) T.m_tuple PyProof.Rows.boot_tuple (pa_cons (pv 2) pa_nil)) rfl)
      (pss_one (ps_fld (pv 0) (pe_mk c_Placing hr (by decide) (by rfl) (pa_cons (pv 1) (pa_cons (fldK K (pv 0) rfl) pa_nil))) rfl)
      ))))), ?_⟩
    rcases h with ⟨o, hv, hsm, hbad, k⟩ | ⟨sg, rfl, hsg, hbad, k⟩ | ⟨sg, p, b, xs, ns, rfl, hsg, rfl, hp, hg, h0, h20, h400, k⟩
    · refine ⟨_, rfl, v0, o, rfl, hv, hsm, fun H1 s1 => ?_⟩
      rw [hbad]
      refine ⟨_, rfl, iteB rfl ?_⟩
      exact ⟨by decide, raise_read fun d hd => k d _ (sm_put' (s0.trans s1) hd) upd_same⟩
    · refine ⟨_, rfl, _, some sg, rfl, .txt sg, (fun l e => by cases e; have := hsg.2.2.1; omega), fun H1 s1 => ?_⟩
      rw [show sgO (some sg) = true from decide_eq_true hsg]
      refine ⟨_, rfl, iteN rfl ?_⟩
      have s01 := s0.trans s1
      have out : ∀ H2, Same H0 H2 → ∀ d : Addr, H2 d = none → E (.ref CI) (some d) (upd H2 d (.xd [("word", .str "parts")])) := fun H2 s2 d hd => k d _ (sm_put' s2 hd) upd_same
      rcases hbad with ⟨t, hty, hk⟩ | ⟨p, b, xs, bs, rfl, hp, hl, h20, hall, hne⟩
      · refine ⟨_, rfl, v1, t, false, rfl, fun H' s' => hty H' (s01.trans s'), hk, fun H2 s2 => ?_⟩
        refine ⟨_, rfl, iteB rfl ?_⟩
        exact ⟨by decide, raise_read (out H2 (s01.trans s2))⟩
      · have hty : ∃ t : Value, (∀ H', Same H0 H' → TyX K H' (.ref p) t) ∧ PySem.W.kitAny K t [.type "list", .type "tuple"] = some true := by
          cases b
          · exact ⟨_, fun H' s' => ty_seqT (hp.same s'), kit_tuple⟩
          · exact ⟨_, fun H' s' => ty_seqL (hp.same s'), kit_list⟩
        obtain ⟨t, hty, hk⟩ := hty
        refine ⟨_, rfl, .ref p, t, true, rfl, fun H' s' => hty H' (s01.trans s'), hk, fun H2 s2 => ?_⟩
        refine ⟨_, rfl, iteN rfl ?_⟩
        have s02 := s01.trans s2
        have hp2 := hp.same s02
        refine ⟨_, rfl, p, _, rfl, hp2.or, rfl, _, rfl, ?_⟩
        by_cases hz : xs.length = 0
        · refine iteB (by rw [hz]; rfl) ?_
          exact ⟨by decide, raise_read (out H2 s02)⟩
        refine iteN (decide_eq_false (by show ¬ V.int (xs.length : Int) = V.int 0; intro h; have := V.int.inj h; omega)) ?_
        refine ⟨_, rfl, p, b, xs, rfl, hp2, fun D hD => lc_keep keep_same (walk_seq (K := K) (b := b) (a := p) (xs := xs)) hD (small1000 (by omega)) (fun j y => ∀ c, bs[j]? = some c → y = .bl c) (fun H3 r => hp2.same r) (fun i x H3 H4 R hii r1 hy hR => ?_) (fun ys H3 hly hg r1 hDs => ?_)⟩
        · obtain ⟨rfl, e⟩ := hy
          have hib : i < bs.length := by rw [← hl]; exact (List.getElem?_eq_some_iff.mp e).1
          refine ⟨rfl, ?_⟩
          refine ⟨_, rfl, _, rfl, x, sg, bs[i], rfl, (hall i x _ e (List.getElem?_eq_getElem hib)).same (s02.trans r1), ?_⟩
          exact hR _ _ (Same.refl _) fun c hc => by rw [List.getElem?_eq_getElem hib] at hc; cases hc; rfl
        · have eb : ys = bs.map V.bl := list_map (hly.trans hl) fun j y c e1 e2 => hg j y e1 c e2
          refine ⟨D, bs, rfl, SqL.of (by rw [← eb]; exact hDs), ?_⟩
          have hf : false ∈ bs := by
            rcases hne with rfl | h
            · exact absurd hl (by simpa using hz)
            · exact h
          rw [all_mem, decide_eq_true hf]
          refine ⟨_, rfl, iteB rfl ?_⟩
          exact ⟨by decide, raise_read (out H3 (s02.trans r1))⟩
    · refine ⟨_, rfl, _, some sg, rfl, .txt sg, (fun l e => by cases e; have := hsg.2.2.1; omega), fun H1 s1 => ?_⟩
      rw [show sgO (some sg) = true from decide_eq_true hsg]
      refine ⟨_, rfl, iteN rfl ?_⟩
      have s01 := s0.trans s1
      have hp0 := hp
      have hp : SqB K b H0 p xs := SqB.of hp0
      have hty : ∃ t : Value, (∀ H', Same H0 H' → TyX K H' (.ref p) t) ∧ PySem.W.kitAny K t [.type "list", .type "tuple"] = some true := by
        cases b
        · exact ⟨_, fun H' s' => ty_seqT (hp.same s'), kit_tuple⟩
        · exact ⟨_, fun H' s' => ty_seqL (hp.same s'), kit_list⟩
      obtain ⟨t, hty, hk⟩ := hty
      refine ⟨_, rfl, .ref p, t, true, rfl, fun H' s' => hty H' (s01.trans s'), hk, fun H2 s2 => ?_⟩
      refine ⟨_, rfl, iteN rfl ?_⟩
      have s02 := s01.trans s2
      have hp2 := hp.same s02
      have hl := hg.1
      refine ⟨_, rfl, p, _, rfl, hp2.or, rfl, _, rfl, ?_⟩
      refine iteN (decide_eq_false (by show ¬ V.int (xs.length : Int) = V.int 0; intro h; have := V.int.inj h; omega)) ?_
      refine ⟨_, rfl, p, b, xs, rfl, hp2, fun D hD => lc_keep keep_same (walk_seq (K := K) (b := b) (a := p) (xs := xs)) hD (small1000 (by omega)) (fun j y => y = .bl true) (fun H3 r => hp2.same r) (fun i x H3 H4 R hii r1 hy hR => ?_) (fun ys H3 hly hgy r1 hDs => ?_)⟩
      · obtain ⟨rfl, e⟩ := hy
        have hib : i < ns.length := by rw [← hl]; exact (List.getElem?_eq_some_iff.mp e).1
        refine ⟨rfl, ?_⟩
        refine ⟨_, rfl, _, rfl, x, sg, true, rfl, ((hg.2 i x _ e (List.getElem?_eq_getElem hib)).same (s02.trans r1)).part, ?_⟩
        exact hR _ _ (Same.refl _) rfl
      refine ⟨D, List.replicate ys.length true, rfl, SqL.of (by rw [← all_true hgy]; exact hDs), ?_⟩
      rw [rep_all]
      refine ⟨_, rfl, iteN rfl ?_⟩
      have s03 := s02.trans r1
      have ha3 := (s1.trans (s2.trans r1)) _ _ ha
      clear hDs hly hgy hD
      refine ⟨_, rfl, _, rfl, a, CS, dx, [], rfl, ha3, CS_.cl, CS_.nS, (by show 0 < 1000; decide), ?_⟩
      have s4 : Same H0 (upd H3 a (.ins CS dx (putF ("signs" : Str) (.str (S sg)) []))) := sm_put_own s03 ha0
      have ha4 : (upd H3 a (.ins CS dx (putF ("signs" : Str) (.str (S sg)) []))) a = some (.ins CS dx [("signs", .str (S sg))]) := upd_same
      generalize upd H3 a (.ins CS dx (putF ("signs" : Str) (.str (S sg)) [])) = H4 at s4 ha4 ⊢
      unfold tSeq
      dsimp only
      unfold sFld
      refine tCB_tup (i := 2) rfl (s4 _ _ hp0) fun pt H5 s5 hpt he _ => ?_
      have ha5 := s5 _ _ ha4
      have npa : pt ≠ a := ne_of hpt ha5 (by intro h; cases h)
      refine ⟨_, rfl, a, CS, dx, _, rfl, ha5, CS_.cl, CS_.nP, (by show 1 < 1000; decide), ?_⟩
      rw [pq2]
      have s6 : Same H0 (upd H5 a (.ins CS dx [("signs", .str (S sg)), ("parts", .ref pt)])) := sm_put_own (s4.trans s5) ha0
      have ha6 : (upd H5 a (.ins CS dx [("signs", .str (S sg)), ("parts", .ref pt)])) a = some (.ins CS dx [("signs", .str (S sg)), ("parts", .ref pt)]) := upd_same
      have hpt6 : (upd H5 a (.ins CS dx [("signs", .str (S sg)), ("parts", .ref pt)])) pt = some (.tup xs) := by rw [upd_ne npa]; exact hpt
      generalize upd H5 a (.ins CS dx [("signs", .str (S sg)), ("parts", .ref pt)]) = H6 at s6 ha6 hpt6 ⊢
      refine ⟨_, rfl, _, rfl, a, CS, dx, _, _, rfl, ha6, CS_.cl, CS_.nP, (show _ = some (V.ref pt) by rfl), fun x ex hx hex hne => ?_⟩
      have sx : Same H6 (upd (upd H6 ex (.own x)) x (.ins C3 ex [])) := fun b o e => by rw [upd_ne (ne_of_none e hx), upd_ne (ne_of_none e hex)]; exact e
      refine ⟨x, ex, pt, sg, xs, ns, H6, rfl, upd_same, sx, hx, SqT.of hpt6, hg.same s6, h400, h20, hsg, fun H7 s7 => ⟨rfl, ?_⟩⟩
      refine ⟨_, rfl, a, CS, dx, _, rfl, s7 _ _ ha6, CS_.cl, CS_.nG, (by show 2 < 1000; decide), ?_⟩
      rw [pz3]
      exact k pt _ (sm_put_own (s6.trans s7) ha0) ⟨dx, x, upd_same, by rw [upd_ne npa]; exact s7 _ _ hpt6⟩ he
theorem ok_smake {C C2 C3 CS CI : Addr} (T : BT mg) (CS_ : CSt K CS) (c_InvalidSight : RaiX P w K mg base 1 "InvalidSight" CI (spXInit CI "word")) (c_issigns : Cal P w K mg base 3 "is_signs" (spIsSignsD K) []) (c_isseq : Cal P w K mg base 1 "is_sequence" (spIsSeqY K) []) (c_ispart : Cal P w K mg base 2 "_is_part" (spIsPart K C C2) []) (c_Placing : Mak P w K mg base 6 "Placing" C3 (spPInit K C C2 C3) []) {f : Addr} (M : Mk K CS f) (hm : mg "Sight" = some (.ref CS)) {fd : FuncData} (F : C8.Fun K "__init__" "Sight.__init__" s_sinit f fd) (b : Binds K fd ["self", "signs", "parts"] []) : MakX P w K mg base 8 "Sight" CS (spSInit K C C2 CS CI) :=
  ⟨f, fd, _, M, ok_sinit T CS_ c_InvalidSight c_issigns c_isseq c_ispart c_Placing F, hm, b⟩
abbrev s_slen : Stmt := inClass (top 36) 6
abbrev n_slen : List Str := ["self"]
theorem sc_slen : FnScope n_slen ["self"] (fnScope s_slen) := fnScope_by (by decide +kernel)
def spSLen (CS : Addr) : Sp := fun vs H Q _ => ∃ (a pt : Addr) (sg : List Nat) (xs : List V), vs = [.ref a] ∧ SightAt CS H a sg pt xs ∧ Q (.int (xs.length : Nat)) H
theorem ok_slen {CS : Addr} (T : BT mg) (CS_ : CSt K CS) {f : Addr} {fd : FuncData} (me : Meth K CS "__len__" f) (F : C8.Fun K "__len__" "Sight.__len__" s_slen f fd) (b : Binds K fd ["self"] []) : Met P w K mg base 1 CS "__len__" (spSLen CS) [] := by
  refine met0 CS_.cl me F b sc_slen (fun vs H Q E h => ?_) (fun cdv A outer s H vs Q E hr h => ?_)
  · obtain ⟨a, pt, sg, xs, rfl, _⟩ := h; rfl
  · obtain ⟨a, pt, sg, xs, rfl, ⟨dx, pl, ha, hpt⟩, k⟩ := h
    refine ⟨_, (pss_one (ps_ret (pe_callB (lenK K) (by rfl) T.m_len PySem.boot_len (pa_cons (fldK K (pv 0) rfl) pa_nil)))
      ), ?_⟩
    exact ⟨_, rfl, a, CS, dx, _, _, rfl, ha, CS_.cl, CS_.nP, (show _ = some (V.ref pt) by rfl), pt, xs, rfl, .inr (SqT.of hpt), k⟩
abbrev s_seq : Stmt := inClass (top 36) 7
abbrev n_seq : List Str := ["self", "other"]
theorem sc_seq : FnScope n_seq ["self", "other"] (fnScope s_seq) := fnScope_by (by decide +kernel)
def spSEq (K : PySem.W.Frag) (CS : Addr) : Sp := fun vs H Q _ => ∃ (a : Addr) (y : V) (pt : Addr) (sg : List Nat) (xs : List V), vs = [.ref a, y] ∧ SightAt CS H a sg pt xs ∧
  ((∃ (b qt : Addr) (ys : List V), y = .ref b ∧ SightAt CS H b sg qt ys ∧ SameR xs ys ∧ Q (.bl (decide (xs.length = ys.length))) H) ∨ (∃ t : Value, TyX K H y t ∧ PySem.W.kitOne K t (.ref CS) = some false ∧ Q (.bl false) H))
theorem ok_seq {CS : Addr} (T : BT mg) (CS_ : CSt K CS) (insS : InsC K CS) (mgS : mg "Sight" = some (.ref CS)) {f : Addr} {fd : FuncData} (me : Meth K CS "__eq__" f) (F : C8.Fun K "__eq__" "Sight.__eq__" s_seq f fd) (b : Binds K fd ["self", "other"] []) : Met P w K mg base 1 CS "__eq__" (spSEq K CS) [] := by
  refine met0 CS_.cl me F b sc_seq (fun vs H Q E h => ?_) (fun cdv A outer s H vs Q E hr h => ?_)
  · obtain ⟨a, y, pt, sg, xs, rfl, _⟩ := h; rfl
  · obtain ⟨a, y, pt, sg, xs, rfl, ⟨dx, pl, ha, hpt⟩, h⟩ := h
    refine ⟨_, (pss_one (ps_ret (pe_and (pe_callB (isiK K) (by rfl) T.m_isinstance PyProof.Rows.boot_isinstance (pa_cons (pv 1) (pa_cons (pe_glob (v := .ref CS) (by rfl) mgS rfl) pa_nil))) (pe_and (pe_cmpR op_eq (fldK K (pv 0) rfl) (fldK K (pv 1) rfl) (nomark _)) (pe_one (pe_cmpR (op_eqIdK K hr) (fldK K (pv 0) rfl) (fldK K (pv 1) rfl) (nomark _))))))
      ), ?_⟩
    rcases h with ⟨b, qt, ys, rfl, ⟨dy, ql, hb, hqt⟩, hsame, q⟩ | ⟨t, ty, hk, q⟩
    · refine ⟨_, rfl, _, _, _, _, true, rfl, .own CS, .base (.ins hb insS.cl insS.ha insS.hn insS.htk insS.hm), insS.me, true, rfl, iteT ?_⟩
      refine ⟨_, rfl, a, CS, dx, _, _, rfl, ha, CS_.cl, CS_.nS, (show _ = some (V.str (S sg)) by rfl), _, rfl, b, CS, dy, _, _, rfl, hb, CS_.cl, CS_.nS, (show _ = some (V.str (S sg)) by rfl), ?_⟩
      refine ⟨rfl, _, rfl, ?_⟩
      refine iteB (decide_eq_true rfl) ?_
      refine ⟨_, rfl, a, CS, dx, _, _, rfl, ha, CS_.cl, CS_.nP, (show _ = some (V.ref pt) by rfl), _, rfl, b, CS, dy, _, _, rfl, hb, CS_.cl, CS_.nP, (show _ = some (V.ref qt) by rfl), ?_⟩
      exact ⟨pt, qt, xs, ys, rfl, rfl, SqT.of hpt, SqT.of hqt, hsame, q⟩
    · exact ⟨_, rfl, _, _, _, _, false, rfl, .own CS, ty, hk, false, rfl, iteN rfl q⟩
end
end Toy
set_option maxHeartbeats 2000000
namespace Toy
open PySem L2 C8 SX LX
local macro_rules | `(tactic| walk_at "c") => `(tactic| refine And.intro (by first | (show (0 : Int) < _; omega) | exact Or.inr ⟨by decide, by decide⟩ | exact Or.inl ⟨by decide, by decide⟩ | (exact ⟨by omega, by omega⟩)) ?_)
local macro_rules | `(tactic| walk_at "s1") => `(tactic| first | refine ⟨_, rfl, ?_⟩ | refine ⟨_, _, rfl, rfl, ?_⟩ | refine .inl ⟨_, rfl, ?_⟩ | walk_at "c")
local macro_rules | `(tactic| walk_at "s") => `(tactic| repeat (walk_at "s1"))
theorem putL {H : Hp} {q x : Addr} {zs : List V} {o ob : HO} (hq : H q = some (.lst zs)) (e : H x = some ob) (n : ∀ ys, ob ≠ .lst ys) : upd H q o x = some ob := by
  rw [upd_ne (fun z => by rw [z, hq] at e; cases e; exact n zs rfl)]; exact e
theorem seqT_putL {K : PySem.W.Frag} {H : Hp} {q p : Addr} {zs xs : List V} (o : HO) (h : SqT K H p xs) (hq : H q = some (.lst zs)) : SqT K (upd H q o) p xs := by
  rcases h with (h | ⟨o', h⟩) | h
  · exact .inl (.inl (putL hq h (by intro ys h; cases h)))
  · exact .inl (.inr ⟨o', putL hq h (by intro ys h; cases h)⟩)
  · exact .inr h
theorem Rdr.putL {C : Addr} {H : Hp} {a q : Addr} {zs : List V} {o : HO} {sg : List Nat} {ms : List (List Nat)} {f : List Nat} {tg : List Nat → Nat → List Nat} (h : Rdr C H a sg ms f tg) (hq : H q = some (.lst zs)) : Rdr C (upd H q o) a sg ms f tg := by
  obtain ⟨dx, m, st, nu, le, sa, la, co, ca, r, hcol⟩ := h
  exact ⟨dx, m, st, nu, le, sa, la, co, ca, ⟨Toy.putL hq r.ha (by intro ys h; cases h), Toy.putL hq r.hm (by intro ys h; cases h), Toy.putL hq r.hst (by intro ys h; cases h), fun x hx => Toy.putL hq (r.hsa x hx) (by intro ys h; cases h), Toy.putL hq r.hnu (by intro ys h; cases h), Toy.putL hq r.hle (by intro ys h; cases h), fun x hx => Toy.putL hq (r.hla x hx) (by intro ys h; cases h)⟩,
    ⟨Toy.putL hq hcol.hco (by intro ys h; cases h), fun c hc => Toy.putL hq (hcol.hca c hc) (by intro ys h; cases h)⟩⟩
theorem GPart.putL {K : PySem.W.Frag} {C C2 : Addr} {H : Hp} {v : V} {sg : List Nat} {n : Nat} {q : Addr} {zs : List V} {o : HO} (h : GPart K C C2 H v sg n) (hq : H q = some (.lst zs)) : GPart K C C2 (upd H q o) v sg n := by
  obtain ⟨p, r, c, b, ms, f, tg, e, h1, h2, h3, h4, h5⟩ := h
  refine ⟨p, r, c, b, ms, f, tg, e, seqT_putL o h1 hq, h2.putL hq, h3, h4, ?_⟩
  rcases h5 with h5 | ⟨q', ims, e, ⟨dx, rr, a1, a2⟩, h6⟩
  · exact .inl h5
  · exact .inr ⟨q', ims, e, ⟨dx, rr, Toy.putL hq a1 (by intro ys h; cases h), Toy.putL hq a2 (by intro ys h; cases h)⟩, h6⟩
section
variable {P : Program} {w : World} {K : PySem.W.Frag} {mg : Str → Option Value} {base : Heap}
abbrev s_exch : Stmt := top 47
abbrev n_exch : List Str := ["flow", "signs_here", "sign"]
theorem sc_exch : FnScope n_exch ["flow", "signs_here"] (fnScope s_exch) := fnScope_by (by decide +kernel)
theorem txs_of_all {ys : List V} {Pp : List Nat → Prop} (h : ∀ (j : Nat) y, ys[j]? = some y → ∃ l, Pp l ∧ y = .str (S l)) : ∃ ims : List (List Nat), ys = txs ims ∧ ∀ l ∈ ims, Pp l := by
  induction ys with
  | nil => exact ⟨[], rfl, fun _ h => nomatch h⟩
  | cons y ys ih =>
    obtain ⟨ims, rfl, hi⟩ := ih fun j z e => h (j + 1) z e
    obtain ⟨l, hl, rfl⟩ := h 0 y rfl
    exact ⟨l :: ims, rfl, fun z hz => by rcases List.mem_cons.mp hz with rfl | hz; exact hl; exact hi z hz⟩
def spExch : Sp := fun vs H Q _ => ∃ (f c : Addr) (sg : List Nat), vs = [.ref f, .str (S sg)] ∧ FlowAt f c H ∧ 1 ≤ sg.length ∧ sg.length ≤ 3 ∧
  ∀ (t : Addr) (ims : List (List Nat)) (H' : Hp), Ims sg ims 6 → Fx f c H H' → H t = none → H' t = some (.tup (txs ims)) → Q (.ref t) H'
theorem ok_exch (T : BT mg) (c_less : Cal P w K mg base 1 "_law_less" spLess []) (c_line : Cal P w K mg base 3 "_law_line" spLine []) {g : Addr} {fd : FuncData} (F : Def K mg "_law_exchange" s_exch g fd) (b : Binds K fd ["flow", "signs_here"] []) : Cal P w K mg base 4 "_law_exchange" spExch [] := by
  refine cal0 F b .nil sc_exch (fun vs H Q E h => ?_) (fun cdv A outer s H vs Q E hr h => ?_)
  · obtain ⟨f, c, sg, rfl, _⟩ := h; rfl
  · obtain ⟨f, c, sg, rfl, hf, h1, h3, k⟩ := h
    refine ⟨_, (pss_one (ps_ret (pe_callTy (tupleK K) (by rfl) T.m_tuple PyProof.Rows.boot_tuple (pa_cons (pe_lc (own := [("sign", 2)]) rfl sc_exch.nd (pi_str (pv 1)) (blkOk_by (N := n_exch) (sc := fnScope s_exch) (by decide +kernel)) (fun _ _ _ _ _ => (pg_name (i := 2) sc_exch.nd rfl (.inl rfl))) (fun _ _ _ _ _ => pts_nil) (fun _ _ _ _ _ => (pe_c c_line hr (by first | decide | omega) (by rfl) (pa_cons (pv 0) (pa_cons (pv 1) (pa_cons (pe_ix (ixl K) (pe_lst (pa_cons pe_int (pa_cons pe_int (pa_cons pe_int pa_nil)))) (pe_c c_less hr (by first | decide | omega) (by rfl) (pa_cons (pv 0) (pa_cons pe_int pa_nil))) (fun _ _ => rfl)) pa_nil)))))) pa_nil)))
      ), ?_⟩
    refine ⟨_, rfl, S sg, rfl, fun D hD => ?_⟩
    refine lc_keep (keep_fx hf) walk_str hD (by show sg.length < sizeLine; exact small1000 (by omega)) (fun _ y => ∃ l, (Ov sg l ∧ l.length ≤ 6) ∧ y = .str (S l)) (fun _ _ => trivial) (fun i x H2 H3 R hi r hy hR => ?_) (fun ys H2 hly hg r hDs => ?_)
    · obtain ⟨rfl, ch, hch, rfl⟩ := hy
      refine ⟨rfl, ?_⟩
      refine ⟨_, rfl, _, rfl, by show 3 ≤ sizeLine; decide, fun p hp => ?_⟩
      have r1 : Fx f c H (upd H3 p (.lst [.int 2, .int 2, .int 6])) := r.put hp (r.free hp)
      have hp1 : (upd H3 p (.lst [.int 2, .int 2, .int 6])) p = some (.lst [.int 2, .int 2, .int 6]) := upd_same
      have rr : Fx f c H3 (upd H3 p (.lst [.int 2, .int 2, .int 6])) := (Fx.refl r.2).put hp hp
      have hpn := flow_ne r.2 hp
      generalize upd H3 p (.lst [.int 2, .int 2, .int 6]) = H4 at r1 hp1 rr
      refine ⟨_, rfl, f, c, 3, rfl, r1.2, by omega, by omega, fun d H5 d0 d1 hB => ?_⟩
      have hp2 := hB.1 _ _ hpn.1 hpn.2 hp1
      have hm : ∃ m : Nat, m ≤ 6 ∧ [V.int 2, .int 2, .int 6][d.toNat]? = some (.int (m : Nat)) := by
        rcases (show d = 0 ∨ d = 1 ∨ d = 2 by omega) with rfl | rfl | rfl
        · exact ⟨2, by decide, rfl⟩
        · exact ⟨2, by decide, rfl⟩
        · exact ⟨6, by decide, rfl⟩
      obtain ⟨m, hm6, em⟩ := hm
      refine ⟨p, _, d, .int (m : Nat), rfl, rfl, SqL.of hp2, at_of (by omega) em, ?_⟩
      refine ⟨f, c, sg, m, rfl, (r1.trans hB).2, h1, h3, by omega, fun l H6 ho hl hB6 => ?_⟩
      exact hR _ _ ((rr.trans hB).trans hB6) ⟨l, ⟨ho, by omega⟩, rfl⟩
    · obtain ⟨ims, rfl, hi⟩ := txs_of_all hg
      have hl : ims.length = sg.length := by
        have e : (S sg).cps.size = sg.length := by simp [S]
        rw [txs_len] at hly
        rw [hly]; exact e
      exact nil1 ⟨D, _, rfl, .inl ⟨SqL.of hDs, fun t ht => k t ims _ ⟨hl, hi⟩ (r.put ht (r.free ht)) (r.free ht) upd_same⟩⟩
abbrev s_part : Stmt := top 48
abbrev n_part : List Str := ["flow", "signs_here", "drafts", "images"]
theorem sc_part : FnScope n_part ["flow", "signs_here", "drafts"] (fnScope s_part) := fnScope_by (by decide +kernel)
def PD (H : Hp) (v : V) (sg : List Nat) (n : Nat) : Prop := ∃ (q : Addr) (d : Nat) (im : V) (b : Bool), v = .ref q ∧ H q = some (.tup [.int (d : Nat), im, .bl b]) ∧ d < n ∧ (im = .non ∨ ∃ (t : Addr) (ims : List (List Nat)), im = .ref t ∧ H t = some (.tup (txs ims)) ∧ Ims sg ims 6)
theorem PD.same {H H' : Hp} {v : V} {sg : List Nat} {n : Nat} (h : PD H v sg n) (s : Same H H') : PD H' v sg n := by
  obtain ⟨q, d, im, b, e, h1, h2, h3⟩ := h
  refine ⟨q, d, im, b, e, s _ _ h1, h2, ?_⟩
  rcases h3 with h3 | ⟨t, ims, e, h3, h4⟩
  · exact .inl h3
  · exact .inr ⟨t, ims, e, s _ _ h3, h4⟩
def spPart (K : PySem.W.Frag) : Sp := fun vs H Q _ => ∃ (f c p : Addr) (sg : List Nat) (xs : List V), vs = [.ref f, .str (S sg), .ref p] ∧ FlowAt f c H ∧ 1 ≤ sg.length ∧ sg.length ≤ 3 ∧ p ≠ f ∧ p ≠ c ∧ SqL K H p xs ∧ 0 < xs.length ∧ xs.length ≤ 20 ∧
  ∀ (q : Addr) (d : Nat) (im : V) (b : Bool) (H' : Hp), Fx f c H H' → H q = none → H' q = some (.tup [.int (d : Nat), im, .bl b]) → d < xs.length → (im = .non ∨ ∃ (t : Addr) (ims : List (List Nat)), im = .ref t ∧ H t = none ∧ H' t = some (.tup (txs ims)) ∧ Ims sg ims 6) → Q (.ref q) H'
theorem ok_part (T : BT mg) (c_less : Cal P w K mg base 1 "_law_less" spLess []) (c_exch : Cal P w K mg base 4 "_law_exchange" spExch []) {g : Addr} {fd : FuncData} (F : Def K mg "_law_part" s_part g fd) (b : Binds K fd ["flow", "signs_here", "drafts"] []) : Cal P w K mg base 5 "_law_part" (spPart K) [] := by
  refine cal0 F b .nil sc_part (fun vs H Q E h => ?_) (fun cdv A outer s H vs Q E hr h => ?_)
  · obtain ⟨f, c, p, sg, xs, rfl, _⟩ := h; rfl
  · obtain ⟨f, c, p, sg, xs, rfl, hf, h1, h3, npf, npc, hp, hx0, hx20, k⟩ := h
    refine ⟨_, (pss_cons (ps_set (i := 3) sc_part.nd rfl (.inl rfl) (pe_ifExp (pt_cmpR op_eq (pe_c c_less hr (by first | decide | omega) (by rfl) (pa_cons (pv 0) (pa_cons pe_int pa_nil))) pe_int (nomark _)) (pe_c c_exch hr (by first | decide | omega) (by rfl) (pa_cons (pv 0) (pa_cons (pv 1) pa_nil))) pe_non))
      (pss_one (ps_ret (pe_tup (pa_cons (pe_c c_less hr (by first | decide | omega) (by rfl) (pa_cons (pv 0) (pa_cons (pe_callB (lenK K) (by rfl) T.m_len PySem.boot_len (pa_cons (pv 2) pa_nil)) pa_nil))) (pa_cons (pv 3) (pa_cons (pe_cmpR op_eq (pe_c c_less hr (by first | decide | omega) (by rfl) (pa_cons (pv 0) (pa_cons pe_int pa_nil))) pe_int (nomark _)) pa_nil)))))
      )), ?_⟩
    have fin : ∀ (im : V) (H1 : Hp), Fx f c H H1 → (im = .non ∨ ∃ (t : Addr) (ims : List (List Nat)), im = .ref t ∧ H t = none ∧ H1 t = some (.tup (txs ims)) ∧ Ims sg ims 6) → tRet (tTup (tCons (tCall spLess [] C8.E0 (tCons (tVar 0) (tCons (tCB (fun xs H Q => ∃ p ys, xs = [V.ref p] ∧ (SqL K H p ys ∨ SqT K H p ys) ∧ Q (V.int ys.length) H) (tCons (tVar 2) tNil)) tNil))) (tCons (tVar 3) (tCons (tOp rEq (tCall spLess [] C8.E0 (tCons (tVar 0) (tCons (tC (V.int 2)) tNil))) (tC (V.int 0))) tNil))))
        { nx := fun _ H' => Q V.non H', rt := Q } [some (.ref f), some (.str (S sg)), some (.ref p), some im] H1 := fun im H1 r1 him => by
      refine ⟨_, rfl, _, rfl, p, xs, rfl, .inl (fx_l r1 ⟨npf, npc⟩ hp), ?_⟩
      refine ⟨f, c, (xs.length : Nat), rfl, r1.2, by omega, by omega, fun d H2 d0 d1 r2 => ?_⟩
      refine ⟨_, rfl, _, rfl, f, c, 2, rfl, r2.2, by omega, by omega, fun d' H3 e0 e1 r3 => ?_⟩
      refine ⟨rfl, ?_⟩
      refine ⟨by show 3 ≤ sizeLine; decide, fun q hq => ?_⟩
      have r13 := (r1.trans r2).trans r3
      have r23 := r2.trans r3
      have hdn : ((d.toNat : Nat) : Int) = d := by omega
      refine k q d.toNat im (decide (V.int d' = V.int 0)) _ (r13.put hq (r13.free hq)) (r13.free hq) (by rw [upd_same, hdn]) (by omega) ?_
      rcases him with rfl | ⟨t, ims, rfl, ht0, ht, hi⟩
      · exact .inl rfl
      · have htn := flow_ne hf ht0
        have ht3 := r23.1 _ _ htn.1 htn.2 ht
        exact .inr ⟨t, ims, rfl, ht0, by rw [upd_ne (ne_of_none ht3 hq)]; exact ht3, hi⟩
    refine ⟨_, rfl, f, c, 2, rfl, hf, by omega, by omega, fun d H1 d0 d1 r1 => ?_⟩
    refine ⟨rfl, _, rfl, ?_⟩
    refine ite2 (fun _ => ?_) (fun _ => ?_)
    · refine ⟨_, rfl, _, rfl, f, c, sg, rfl, r1.2, h1, h3, fun t ims H2 hi r2 ht0 ht => ?_⟩
      exact fin (.ref t) H2 (r1.trans r2) (.inr ⟨t, ims, rfl, r1.free ht0, ht, hi⟩)
    · exact fin .non H1 r1 (.inl rfl)
abbrev s_lsight : Stmt := top 49
abbrev n_lsight : List Str := ["signs_here", "drafts", "parts_here", "found", "number", "images", "is_back", "change"]
theorem sc_lsight : FnScope n_lsight ["signs_here", "drafts", "parts_here"] (fnScope s_lsight) := fnScope_by (by decide +kernel)
def DraftX (K : PySem.W.Frag) (H : Hp) (x : V) (sg : List Nat) : Prop := ∃ (q pm pd : Addr) (ms : List (List Nat)) (b : List Nat) (kvs : List (List Key × V)), x = .ref q ∧ Draft K H q pm pd ms b sg kvs
theorem DraftX.same {K : PySem.W.Frag} {H H' : Hp} {x : V} {sg : List Nat} (h : DraftX K H x sg) (s : Same H H') : DraftX K H' x sg := let ⟨q, pm, pd, ms, b, kvs, e, d⟩ := h; ⟨q, pm, pd, ms, b, kvs, e, d.same s⟩
def spLSight (K : PySem.W.Frag) (C C2 CS : Addr) : Sp := fun vs H Q _ => ∃ (sg : List Nat) (dr pp : Addr) (ds ps : List V), vs = [.str (S sg), .ref dr, .ref pp] ∧ Sg sg ∧ H dr = some (.lst ds) ∧ (∀ x ∈ ds, DraftX K H x sg) ∧ H pp = some (.lst ps) ∧ (∀ x ∈ ps, PD H x sg ds.length) ∧ 0 < ps.length ∧ ps.length ≤ 10 ∧
  ∀ (a pt : Addr) (xs : List V) (ns : List Nat) (H' : Hp), Same H H' → H a = none → SightAt CS H' a sg pt xs → GParts K C C2 H' xs sg ns → ns.length = ps.length → ns.sum ≤ 100 → Q (.ref a) H'
theorem ok_lsight {C C2 CS CI : Addr} (T : BT mg) (c_lreader : Cal P w K mg base 7 "_law_reader" (spLReader C K) []) (c_Change : Mak P w K mg base 4 "Change" C2 (spCInit C2) []) (c_Sight : MakX P w K mg base 8 "Sight" CS (spSInit K C C2 CS CI)) {g : Addr} {fd : FuncData} (F : Def K mg "_law_sight" s_lsight g fd) (b : Binds K fd ["signs_here", "drafts", "parts_here"] []) : Cal P w K mg base 10 "_law_sight" (spLSight K C C2 CS) [] := by
  refine cal0 F b .nil sc_lsight (fun vs H Q E h => ?_) (fun cdv A outer s H vs Q E hr h => ?_)
  · obtain ⟨sg, dr, pp, ds, ps, rfl, _⟩ := h; rfl
  · obtain ⟨sg, dr, pp, ds, ps, rfl, hsg, hdr, hds, hpp, hps, hp0, hp20, k⟩ := h
    refine ⟨_, (pss_cons (ps_set (i := 3) sc_lsight.nd rfl (.inl rfl) (pe_lst pa_nil))
      (pss_cons (ps_for PassesOwn.never rfl (pi_list (pv 2)) (tupK K 3 (pgs_cons (pg_name (i := 4) sc_lsight.nd rfl (.inl rfl)) (pgs_cons (pg_name (i := 5) sc_lsight.nd rfl (.inl rfl)) (pgs_cons (pg_name (i := 6) sc_lsight.nd rfl (.inl rfl)) pgs_nil)))) 
        (pss_cons (ps_set (i := 7) sc_lsight.nd rfl (.inl rfl) (pe_ifExp (pt_cmpR op_notN (pv 5) pe_non (nomark _)) (pe_mk c_Change hr (by decide) (by rfl) (pa_cons (pv 0) (pa_cons (pe_callTy (listK K) (by rfl) T.m_list PyProof.Rows.boot_list (pa_cons (pv 5) pa_nil)) pa_nil))) pe_non))
        (pss_one (ps_expr (pe_bm PySem.F.plainAttrs_list PySem.F.slot_list_append PySem.F.type_list_append mt_append (pv 3) (pa_cons (pe_tup (pa_cons (pe_c c_lreader hr (by first | decide | omega) (by rfl) (pa_cons (pv 0) (pa_cons (pe_ix (ixl K) (pv 1) (pv 4) (fun _ _ => rfl)) pa_nil))) (pa_cons (pv 7) (pa_cons (pv 6) pa_nil)))) pa_nil)))
        )))
      (pss_one (ps_ret (pe_mkX c_Sight takes_none5 hr (by decide) (by rfl) (pa_cons (pv 0) (pa_cons (pv 3) pa_nil))))
      ))), ?_⟩
    refine ⟨by show 0 ≤ sizeLine; decide, fun fn hfn0 => ?_⟩
    have s1 : Same H (upd H fn (.lst [])) := sm_new hfn0
    have hfn1 : (upd H fn (.lst [])) fn = some (.lst []) := upd_same
    generalize upd H fn (.lst []) = H1 at s1 hfn1
    refine ⟨_, rfl, pp, rfl, ⟨_, SqL.of (s1 _ _ hpp)⟩, for_it (walk_list (K := K) (a := pp) (xs := ps)) (fun i σ H' => ∃ (s4 s5 s6 s7 : Option V) (es : List V) (ns : List Nat), σ = [some (.str (S sg)), some (.ref dr), some (.ref pp), some (.ref fn), s4, s5, s6, s7] ∧ Same H H' ∧ H' fn = some (.lst es) ∧ es.length = i ∧ GParts K C C2 H' es sg ns ∧ ns.sum ≤ 5 * i)
      ⟨_, _, _, _, [], [], rfl, s1, hfn1, rfl, ⟨rfl, fun i v n e => by simp at e⟩, by simp⟩ (fun _ _ _ _ ⟨_, _, _, _, _, _, _, e, _⟩ => SqL.of (e _ _ hpp)) ?_ ?_⟩
    · rintro i x σ H2 H2' hi ⟨s4, s5, s6, s7, es, ns, rfl, s2, hfn, hel, hgp, hsum⟩ ⟨rfl, ex⟩
      obtain ⟨q, d, im, b, rfl, hq, hd, him⟩ := (hps x (List.mem_of_getElem? ex)).same s2
      obtain ⟨dv, edv⟩ : ∃ dv, ds[d]? = some dv := ⟨_, List.getElem?_eq_getElem hd⟩
      obtain ⟨dq, pm, pd, ms, b', kvs, rfl, hD⟩ := hds dv (List.mem_of_getElem? edv)
      have edq := edv
      have h5 := names_sub hD.nd hD.nm
      refine ⟨q, _, rfl, SqT.of hq, rfl, _, _, rfl, _, _, rfl, _, _, rfl, rfl, ?_⟩
      rcases him with rfl | ⟨t, ims, rfl, ht, hi6⟩
      · refine ⟨_, rfl, rfl, _, rfl, iteN rfl ?_⟩
        have s3 : Same H2' H2' := Same.refl _
        refine ⟨_, rfl, .inl ⟨rfl, _, SqL.of (s3 _ _ hfn)⟩, ?_⟩
        have hdr3 := (s2.trans s3) _ _ hdr
        refine ⟨_, rfl, _, rfl, _, rfl, dr, ds, (d : Nat), .ref dq, rfl, rfl, SqL.of hdr3, at_of rfl edq, ?_⟩
        refine ⟨dq, pm, pd, ms, b', sg, kvs, rfl, hD.same (s2.trans s3), hsg, fun rp H5 s5 hrp hrd => ?_⟩
        refine ⟨_, rfl, _, rfl, by show 3 ≤ sizeLine; decide, fun p hp => ?_⟩
        have s25 := s3.trans s5
        have s6 : Same H2' (upd H5 p (.tup [.ref rp, .non, .bl b])) := sm_put' s25 hp
        have hfn6 := s6 _ _ hfn
        have hp6 : (upd H5 p (.tup [.ref rp, .non, .bl b])) p = some (.tup [.ref rp, .non, .bl b]) := upd_same
        have hg6 : GPart K C C2 (upd H5 p (.tup [.ref rp, .non, .bl b])) (.ref p) sg ms.length := ⟨p, rp, .non, b, ms, b', tgD kvs, rfl, SqT.of hp6, hrd.same (sm_new hp), hD.good hsg, rfl, .inl rfl⟩
        generalize upd H5 p (.tup [.ref rp, .non, .bl b]) = H6 at s6 hfn6 hp6 hg6 ⊢
        refine ⟨fn, es, _, rfl, rfl, hfn6, by rw [hel]; exact small1000 (by omega), ?_⟩
        refine ⟨_, _, _, _, es ++ [.ref p], ns ++ [ms.length], rfl, sm_put_own (s2.trans s6) hfn0, upd_same, by rw [List.length_append, hel]; rfl, ⟨by rw [List.length_append, List.length_append, hgp.1]; rfl, fun j v n e1 e2 => ?_⟩, by rw [List.sum_append]; simp; omega⟩
        by_cases hj : j < es.length
        · rw [List.getElem?_append_left hj] at e1
          rw [List.getElem?_append_left (by rw [← hgp.1]; exact hj)] at e2
          exact ((hgp.2 j v n e1 e2).same s6).putL hfn6
        · have hl := hgp.1
          rw [List.getElem?_append_right (by omega)] at e1 e2
          rw [← hl] at e2
          cases hz : j - es.length with
          | succ k => rw [hz] at e1; simp at e1
          | zero =>
            rw [hz] at e1 e2
            simp at e1 e2
            subst e1 e2
            exact hg6.putL hfn6
      · refine ⟨_, rfl, rfl, _, rfl, iteB rfl ?_⟩
        refine ⟨_, rfl, _, rfl, t, _, rfl, .inr (SqT.of ht), fun l hl => ?_⟩
        have sl : Same H2' (upd H2' l (.lst (txs ims))) := sm_new hl
        refine nil1 fun x1 dx1 hx1 hdx1 hne1 => ?_
        have hl2 : (upd H2' l (.lst (txs ims))) l = some (.lst (txs ims)) := upd_same
        generalize upd H2' l (.lst (txs ims)) = Hl at sl hl2 hx1 hdx1 ⊢
        have i1000 : Ims sg ims 1000 := ⟨hi6.1, fun z hz => ⟨(hi6.2 z hz).1, by have := (hi6.2 z hz).2; omega⟩⟩
        refine ⟨x1, dx1, l, sg, ims, rfl, upd_same, by rw [upd_ne (ne_of_none hl2 hx1), upd_ne (ne_of_none hl2 hdx1)]; exact hl2, hsg, i1000, fun H3 hk hch => ⟨rfl, ?_⟩⟩
        have s3' : Same Hl H3 := fun b o e => hk b o (ne_of_none e hx1) (by rw [upd_ne (ne_of_none e hx1), upd_ne (ne_of_none e hdx1)]; exact e)
        have s3 : Same H2' H3 := sl.trans s3'
        refine ⟨_, rfl, .inl ⟨rfl, _, SqL.of (s3 _ _ hfn)⟩, ?_⟩
        have hdr3 := (s2.trans s3) _ _ hdr
        refine ⟨_, rfl, _, rfl, _, rfl, dr, ds, (d : Nat), .ref dq, rfl, rfl, SqL.of hdr3, at_of rfl edq, ?_⟩
        refine ⟨dq, pm, pd, ms, b', sg, kvs, rfl, hD.same (s2.trans s3), hsg, fun rp H5 s5 hrp hrd => ?_⟩
        refine ⟨_, rfl, _, rfl, by show 3 ≤ sizeLine; decide, fun p hp => ?_⟩
        have s25 := s3.trans s5
        have s6 : Same H2' (upd H5 p (.tup [.ref rp, .ref x1, .bl b])) := sm_put' s25 hp
        have hfn6 := s6 _ _ hfn
        have hp6 : (upd H5 p (.tup [.ref rp, .ref x1, .bl b])) p = some (.tup [.ref rp, .ref x1, .bl b]) := upd_same
        have hg6 : GPart K C C2 (upd H5 p (.tup [.ref rp, .ref x1, .bl b])) (.ref p) sg ms.length := ⟨p, rp, .ref x1, b, ms, b', tgD kvs, rfl, SqT.of hp6, hrd.same (sm_new hp), hD.good hsg, rfl, .inr ⟨x1, ims, rfl, hch.same (s5.trans (sm_new hp)), ⟨hi6.1, fun z hz => ⟨(hi6.2 z hz).1, by have := (hi6.2 z hz).2; omega⟩⟩⟩⟩
        generalize upd H5 p (.tup [.ref rp, .ref x1, .bl b]) = H6 at s6 hfn6 hp6 hg6 ⊢
        refine ⟨fn, es, _, rfl, rfl, hfn6, by rw [hel]; exact small1000 (by omega), ?_⟩
        refine ⟨_, _, _, _, es ++ [.ref p], ns ++ [ms.length], rfl, sm_put_own (s2.trans s6) hfn0, upd_same, by rw [List.length_append, hel]; rfl, ⟨by rw [List.length_append, List.length_append, hgp.1]; rfl, fun j v n e1 e2 => ?_⟩, by rw [List.sum_append]; simp; omega⟩
        by_cases hj : j < es.length
        · rw [List.getElem?_append_left hj] at e1
          rw [List.getElem?_append_left (by rw [← hgp.1]; exact hj)] at e2
          exact ((hgp.2 j v n e1 e2).same s6).putL hfn6
        · have hl := hgp.1
          rw [List.getElem?_append_right (by omega)] at e1 e2
          rw [← hl] at e2
          cases hz : j - es.length with
          | succ k => rw [hz] at e1; simp at e1
          | zero =>
            rw [hz] at e1 e2
            simp at e1 e2
            subst e1 e2
            exact hg6.putL hfn6
    · rintro σ H2 ⟨s4, s5, s6, s7, es, ns, rfl, s2, hfn, hel, hgp, hsum⟩
      have hl := hgp.1
      refine ⟨_, rfl, _, rfl, fun a dx ha hdx hne => ?_⟩
      have sx : Same H2 (upd (upd H2 dx (.own a)) a (.ins CS dx [])) := fun b o e => by rw [upd_ne (ne_of_none e ha), upd_ne (ne_of_none e hdx)]; exact e
      refine ⟨a, dx, _, _, H2, rfl, upd_same, sx, ha, .inr (.inr ⟨sg, fn, true, es, ns, rfl, hsg, rfl, hfn, hgp, by omega, by omega, by omega, fun pt H3 s3 hs _ => ⟨rfl, ?_⟩⟩)⟩
      exact k a pt es ns H3 (s2.trans s3) (s2.free ha) hs (hgp.same s3) (by omega) (by omega)
abbrev s_word : Stmt := top 50
abbrev n_word : List Str := ["signs_here", "parts_here", "found", "e"]
theorem sc_word : FnScope n_word ["signs_here", "parts_here"] (fnScope s_word) := fnScope_by (by decide +kernel)
def spWord (K : PySem.W.Frag) (C C2 : Addr) : Sp := fun vs H Q _ => ∃ v0 v1 : V, vs = [v0, v1] ∧
  ((∃ o, (∀ H', Same H H' → Kv K H' v0 o) ∧ Sm o ∧ sgO o = false ∧ ∀ H', Same H H' → Q (.str "signs") H') ∨
   (∃ sg, v0 = .str (S sg) ∧ Sg sg ∧ BadP K C C2 H sg v1 ∧ ∀ H', Same H H' → Q (.str "parts") H') ∨
   (∃ (sg : List Nat) (p : Addr) (b : Bool) (xs : List V) (ns : List Nat), v0 = .str (S sg) ∧ Sg sg ∧ v1 = .ref p ∧ H p = some (seqB b xs) ∧ GParts K C C2 H xs sg ns ∧ 0 < ns.length ∧ ns.length ≤ 20 ∧ ns.sum ≤ 400 ∧ ∀ H', Same H H' → Q .non H'))
theorem ok_word {C C2 CS C_InvalidSight C_RowError : Addr} (T : BT mg) (c_Sight : MakX P w K mg base 8 "Sight" CS (spSInit K C C2 CS C_InvalidSight)) (x_InvalidSight : XQ K mg "InvalidSight" C_InvalidSight) (n_InvalidSight : PySem.W.findIn K (.ref C_InvalidSight) "word" = some none) (x_RowError : XG mg "RowError" C_RowError)
    (sCC : PySem.W.subIn K (.ref C_InvalidSight) (.ref C_InvalidSight) = some true) (kCR : PySem.W.kitOne K (.ref C_InvalidSight) (.ref C_RowError) = some true) {f : Addr} {fd : FuncData} (F : Def K mg "_law_word" s_word f fd) (b : Binds K fd ["signs_here", "parts_here"] []) : Cal P w K mg base 10 "_law_word" (spWord K C C2) [] := by
  refine cal0 F b .nil sc_word (fun vs H Q E h => ?_) (fun cdv A outer s H vs Q E hr h => ?_)
  · obtain ⟨v0, v1, rfl, _⟩ := h; rfl
  · obtain ⟨v0, v1, rfl, h⟩ := h
    refine ⟨_, (pss_cons (ps_set (i := 2) sc_word.nd rfl (.inl rfl) pe_non)
      (pss_cons (ps_try_manyA rfl rfl sc_word.nd takes_none5 (fun W pn xe tk pso => 
        (pss_one (ps_expr (pe_mkX c_Sight tk hr (by decide) (by rfl) (pa_cons (pv 0) (pa_cons (pv 1) pa_nil))))
        )) (.consA (i := 3) rfl rfl ⟨rfl, by decide, .inl x_InvalidSight.g⟩ (fun a oe cls d pn hz hf => 
        (pss_one (ps_set (i := 2) sc_word.nd rfl (.inl rfl) (pe_ifExp (pt_val (pe_callB (call_isX hz hf) (by rfl) T.m_isinstance PyProof.Rows.boot_isinstance (pa_cons (pv 3) (pa_cons (pe_glob (v := .ref C_RowError) (by rfl) x_RowError.g rfl) pa_nil)))) (pe_xf x_InvalidSight.x.xf n_InvalidSight hz hf (pv 3)) pe_str))
        )) .nil))
      (pss_one (ps_ret (pv 2))
      ))), ?_⟩
    refine ⟨_, rfl, _, rfl, fun x dx hx hdx nx => ?_⟩
    have s1 : Same H (upd (upd H dx (.own x)) x (.ins CS dx [])) := fun b o e => by rw [upd_ne (ne_of_none e hx), upd_ne (ne_of_none e hdx)]; exact e
    rcases h with ⟨o, hv, hsm, hbad, k⟩ | ⟨sg, rfl, hsg, hbad, k⟩ | ⟨sg, p, b, xs, ns, rfl, hsg, rfl, hp, hg, h0, h20, h400, k⟩
    · refine ⟨x, dx, v0, v1, H, rfl, upd_same, s1, hx, .inl ⟨o, hv _ s1, hsm, hbad, fun d H' s2 hd => ?_⟩⟩
      refine ⟨true, x_InvalidSight.x.exm sCC, fun _ a ha => ?_, fun h => nomatch h⟩
      refine ⟨_, rfl, C_InvalidSight, _, _, true, rfl, x_InvalidSight.x.exc, rfl, fun u hu => hu, kCR, .inr ⟨d, _, rfl, hd⟩, ?_⟩
      refine ⟨true, rfl, iteB rfl ?_⟩
      refine ⟨_, rfl, rfl, rfl, d, _, .str "signs", rfl, hd, rfl, ?_⟩
      exact ⟨_, rfl, k H' s2⟩
    · refine ⟨x, dx, _, v1, H, rfl, upd_same, s1, hx, .inr (.inl ⟨sg, rfl, hsg, hbad, fun d H' s2 hd => ?_⟩)⟩
      refine ⟨true, x_InvalidSight.x.exm sCC, fun _ a ha => ?_, fun h => nomatch h⟩
      refine ⟨_, rfl, C_InvalidSight, _, _, true, rfl, x_InvalidSight.x.exc, rfl, fun u hu => hu, kCR, .inr ⟨d, _, rfl, hd⟩, ?_⟩
      refine ⟨true, rfl, iteB rfl ?_⟩
      refine ⟨_, rfl, rfl, rfl, d, _, .str "parts", rfl, hd, rfl, ?_⟩
      exact ⟨_, rfl, k H' s2⟩
    · refine ⟨x, dx, _, _, H, rfl, upd_same, s1, hx, .inr (.inr ⟨sg, p, b, xs, ns, rfl, hsg, rfl, hp, hg, h0, h20, h400, fun pt H' s2 _ _ => ⟨rfl, ?_⟩⟩)⟩
      exact ⟨_, rfl, k H' s2⟩
end
end Toy
set_option maxHeartbeats 2000000
namespace Toy
open PySem L2 C8 SX LX
def Shows (Hb : Hp) (σ : L2.St) (t : TE) (Pd : V → Hp → Prop) : Prop := ∀ (H : Hp) (Q : VK), Same Hb H → (∀ v H', Same H H' → Pd v H' → Q v H') → t σ H Q
def MonP (Pd : V → Hp → Prop) : Prop := ∀ v H H', Same H H' → Pd v H → Pd v H'
def ShowsA (Hb : Hp) (σ : L2.St) (ta : TA) (n : Nat) (Pd : V → Hp → Prop) : Prop := ∀ (H : Hp) (Q : List V → Hp → Prop), Same Hb H → (∀ vs H', Same H H' → vs.length = n → (∀ v ∈ vs, Pd v H') → Q vs H') → ta σ H Q
def Leaf (σ : L2.St) (t : TE) (x : V) : Prop := ∀ (H : Hp) (Q : VK), Q x H → t σ H Q
section
variable {K : PySem.W.Frag} {C C2 : Addr} {sg : List Nat} {Hb : Hp} {σ : L2.St} {t : TE} {ta : TA} {n : Nat} {Pd : V → Hp → Prop}
theorem sa_nil : ShowsA Hb σ tNil 0 Pd := fun H Q _ k => k [] H (Same.refl H) rfl (fun _ h => nomatch h)
theorem sa_cons (m : MonP Pd) (h : Shows Hb σ t Pd) (ha : ShowsA Hb σ ta n Pd) : ShowsA Hb σ (tCons t ta) (n + 1) Pd := fun H Q s k => h H _ s fun v H1 s1 p => ha H1 _ (s.trans s1) fun vs H2 s2 hl hv => k (v :: vs) H2 (s1.trans s2) (by rw [List.length_cons, hl]) fun x hx => by
  rcases List.mem_cons.mp hx with rfl | hx
  · exact m _ _ _ s2 p
  · exact hv x hx
theorem sh_leaf {x : V} (h : Leaf σ t x) (p : ∀ H, Same Hb H → Pd x H) : Shows Hb σ t Pd := fun H Q s k => h H _ (k x H (Same.refl H) (p H s))
theorem leaf_c (x : V) : Leaf σ (tC x) x := fun _ _ q => q
theorem leaf_v {i : Nat} {x : V} (h : σ[i]? = some (some x)) : Leaf σ (tVar i) x := fun _ _ q => ⟨_, h, q⟩
theorem sh_lst (m : MonP Pd) (ha : ShowsA Hb σ ta n Pd) (hn : n ≤ 1000) : Shows Hb σ (tLst ta) fun v H => ∃ p vs, v = .ref p ∧ H p = some (.lst vs) ∧ vs.length = n ∧ ∀ x ∈ vs, Pd x H := fun H Q s k => ha H _ s fun vs H1 s1 hl hv => ⟨by rw [hl]; exact sz hn (Nat.le_refl _), fun p hp => k _ _ (s1.trans (sm_new hp)) ⟨p, vs, rfl, upd_same, hl, fun x hx => m _ _ _ (sm_new hp) (hv x hx)⟩⟩
theorem sh_imp {Pd' : V → Hp → Prop} (h : Shows Hb σ t Pd) (i : ∀ v H, Same Hb H → Pd v H → Pd' v H) : Shows Hb σ t Pd' := fun H Q s k => h H Q s fun v H' s' p => k v H' s' (i v H' (s.trans s') p)
inductive Leaves (σ : L2.St) : TA → List V → Prop
  | nil : Leaves σ tNil []
  | cons {t : TE} {ta : TA} {x : V} {xs : List V} (h : Leaf σ t x) (hs : Leaves σ ta xs) : Leaves σ (tCons t ta) (x :: xs)
theorem leaves_run {xs : List V} (h : Leaves σ ta xs) : ∀ (H : Hp) (Q : List V → Hp → Prop), Q xs H → ta σ H Q := by
  induction h with
  | nil => intro H Q q; exact q
  | cons h hs ih => intro H Q q; exact h H _ (ih H _ q)
theorem sh_tup {xs : List V} (h : Leaves σ ta xs) (hn : xs.length ≤ 1000) : Shows Hb σ (tTup ta) fun v H => ∃ p, v = .ref p ∧ H p = some (.tup xs) := fun H Q s k => leaves_run h H _ ⟨sz hn (Nat.le_refl _), fun p hp => k _ _ (sm_new hp) ⟨p, rfl, upd_same⟩⟩
theorem sh_lstL {xs : List V} (h : Leaves σ ta xs) (hn : xs.length ≤ 1000) : Shows Hb σ (tLst ta) fun v H => ∃ p, v = .ref p ∧ H p = some (.lst xs) := fun H Q s k => leaves_run h H _ ⟨sz hn (Nat.le_refl _), fun p hp => k _ _ (sm_new hp) ⟨p, rfl, upd_same⟩⟩
def Bad (K : PySem.W.Frag) (C C2 : Addr) (sg : List Nat) : V → Hp → Prop := fun v H => BadP K C C2 H sg v
def NoPart (K : PySem.W.Frag) (C C2 : Addr) (sg : List Nat) : V → Hp → Prop := fun v H => PartV K C C2 H sg v false
theorem mon_no : MonP (NoPart K C C2 sg) := fun _ _ _ s p => PartV.same p s
theorem mon_bad : MonP (Bad K C C2 sg) := fun v H H' s p => by
  rcases p with ⟨t, h1, h2⟩ | ⟨p, b, xs, bs, e, h1, h2, h3, h4, h5⟩
  · exact .inl ⟨t, fun H2 s2 => h1 H2 (s.trans s2), h2⟩
  · exact .inr ⟨p, b, xs, bs, e, h1.same s, h2, h3, fun i x c e1 e2 => (h4 i x c e1 e2).same s, h5⟩
theorem bad_ty {x : V} {ty : Value} (h : Leaf σ t x) (p : ∀ H', Same Hb H' → TyX K H' x ty) (k : PySem.W.kitAny K ty [.type "list", .type "tuple"] = some false) : Shows Hb σ t (Bad K C C2 sg) := sh_leaf h fun H s => .inl ⟨ty, fun H' s' => p H' (s.trans s'), k⟩
theorem bad_nilL : Shows Hb σ (tLst tNil) (Bad K C C2 sg) := sh_imp (sh_lstL .nil (by decide)) fun v H _ ⟨p, e, h⟩ => .inr ⟨p, true, [], [], e, SqL.of h, rfl, by decide, fun i x c e => by simp at e, .inl rfl⟩
theorem bad_nilT : Shows Hb σ (tTup tNil) (Bad K C C2 sg) := sh_imp (sh_tup .nil (by decide)) fun v H _ ⟨p, e, h⟩ => .inr ⟨p, false, [], [], e, SqT.of h, rfl, by decide, fun i x c e => by simp at e, .inl rfl⟩
theorem bad_one (h : Shows Hb σ t (NoPart K C C2 sg)) : Shows Hb σ (tLst (tCons t tNil)) (Bad K C C2 sg) := sh_imp (sh_lst mon_no (sa_cons mon_no h sa_nil) (by decide)) fun v H _ ⟨p, vs, e, hp, hl, hv⟩ => by
  obtain ⟨x, rfl⟩ := List.length_eq_one_iff.mp hl
  refine .inr ⟨p, true, [x], [false], e, SqL.of hp, rfl, by simp, fun i y c e1 e2 => ?_, .inr List.mem_cons_self⟩
  cases i with
  | zero => cases e1; cases e2; exact hv x List.mem_cons_self
  | succ i => simp at e1
theorem np_ty {x : V} {ty : Value} (h : Leaf σ t x) (p : ∀ H', Same Hb H' → TyX K H' x ty) (k : PySem.W.kitOne K ty (.type "tuple") = some false) : Shows Hb σ t (NoPart K C C2 sg) := sh_leaf h fun H s => .nt (fun H' s' => p H' (s.trans s')) k
theorem np_len {xs : List V} (h : Leaves σ ta xs) (hn : xs.length ≤ 1000) (n3 : xs.length ≠ 3) : Shows Hb σ (tTup ta) (NoPart K C C2 sg) := sh_imp (sh_tup h hn) fun v H _ ⟨p, e, hp⟩ => by subst e; exact .len (SqT.of hp) n3
theorem np_lst {xs : List V} (h : Leaves σ ta xs) (hn : xs.length ≤ 1000) : Shows Hb σ (tLst ta) (NoPart K C C2 sg) := sh_imp (sh_lstL h hn) fun v H _ ⟨p, e, hp⟩ => by subst e; exact .nt (fun H' s => ty_seqL (SqL.of (s _ _ hp))) (kit_ty (a := "list") (by decide +kernel))
theorem np_t3 {x0 x1 x2 : V} {o0 : Option (List Nat)} {o1 : Option (Option (List Nat))} {b2 : Bool} (h : Leaves σ ta [x0, x1, x2]) (h0 : ∀ H, Same Hb H → K0 K C H x0 o0) (h1 : ∀ H, Same Hb H → K1 K C2 H x1 o1) (h2 : K2 K x2 b2) (e : ok3 sg o0 o1 b2 = false) : Shows Hb σ (tTup ta) (NoPart K C C2 sg) := sh_imp (sh_tup h (by show 3 ≤ 1000; decide)) fun v H s ⟨p, ev, hp⟩ => by
  subst ev
  have := PartV.t3 (sg := sg) (C := C) (C2 := C2) (SqT.of hp) (h0 H s) (h1 H s) h2
  rw [e] at this; exact this
def NoSg (K : PySem.W.Frag) : V → Hp → Prop := fun v H => ∃ o, (∀ H', Same H H' → Kv K H' v o) ∧ Sm o ∧ sgO o = false
theorem sm_none : Sm none := fun l e => by cases e
theorem mon_ns : MonP (NoSg K) := fun v H H' s ⟨o, h1, h2, h3⟩ => ⟨o, fun H2 s2 => h1 H2 (s.trans s2), h2, h3⟩
theorem ns_txt {l : List Nat} (h : Leaf σ t (.str (S l))) (hl : l.length ≤ 1000) (e : sgO (some l) = false) : Shows Hb σ t (NoSg K) := sh_leaf h fun H s => ⟨some l, fun _ _ => .txt l, fun l' e => by cases e; exact hl, e⟩
theorem ns_ty {x : V} {ty : Value} (h : Leaf σ t x) (p : ∀ H', TyX K H' x ty) (k : PySem.W.kitOne K ty (.type "str") = some false) : Shows Hb σ t (NoSg K) := sh_leaf h fun H s => ⟨none, fun H' _ => .no (p H') k, sm_none, rfl⟩
theorem ns_tup {xs : List V} (h : Leaves σ ta xs) (hn : xs.length ≤ 1000) : Shows Hb σ (tTup ta) (NoSg K) := sh_imp (sh_tup h hn) fun v H _ ⟨p, e, hp⟩ => by subst e; exact ⟨none, fun H' s => .no (ty_seqT (SqT.of (s _ _ hp))) (kit_ty (a := "tuple") (by decide +kernel)), sm_none, rfl⟩
theorem ns_lst {xs : List V} (h : Leaves σ ta xs) (hn : xs.length ≤ 1000) : Shows Hb σ (tLst ta) (NoSg K) := sh_imp (sh_lstL h hn) fun v H _ ⟨p, e, hp⟩ => by subst e; exact ⟨none, fun H' s => .no (ty_seqL (SqL.of (s _ _ hp))) (kit_ty (a := "list") (by decide +kernel)), sm_none, rfl⟩
theorem bad_two {t1 t2 : TE} (h1 : Shows Hb σ t1 fun v H => PartV K C C2 H sg v true) (h2 : Shows Hb σ t2 (NoPart K C C2 sg)) : Shows Hb σ (tLst (tCons t1 (tCons t2 tNil))) (Bad K C C2 sg) := fun H Q s k => h1 H _ s fun v1 H1 s1 p1 => h2 H1 _ (s.trans s1) fun v2 H2 s2 p2 => ⟨by show 2 ≤ sizeLine; decide, fun p hp => k _ _ ((s1.trans s2).trans (sm_new hp)) (.inr ⟨p, true, [v1, v2], [true, false], rfl, SqL.of upd_same, rfl, by simp, (fun i y c e1 e2 => by
  rcases i with _ | _ | n
  · cases e1; cases e2; exact p1.same (s2.trans (sm_new hp))
  · cases e1; cases e2; exact PartV.same p2 (sm_new hp)
  · simp at e1), .inr (List.mem_cons_of_mem _ List.mem_cons_self)⟩)⟩
theorem s_q' : (Str.ofString "q") = S [113] := by decide +kernel
theorem np_change {t0 : TE} {r : Addr} (h0 : Leaf σ t0 (.ref r)) {o0 : Option (List Nat)} (hr : ∀ H, Same Hb H → K0 K C H (.ref r) o0) (hq : 113 ∉ sg) : Shows Hb σ (tTup (tCons t0 (tCons (tMake C2 (spCInit C2) [] C8.E0 (tCons (tC (.str (Str.ofString "q"))) (tCons (tLst (tCons (tC (.str (Str.ofString "q"))) tNil)) tNil))) (tCons (tC (.bl false)) tNil)))) (NoPart K C C2 sg) := fun H Q s k => by
  refine h0 H _ ?_
  refine ⟨by show 1 ≤ sizeLine; decide, fun q1 hq1 => ?_⟩
  have s1 : Same H (upd H q1 (.lst [.str (Str.ofString "q")])) := sm_new hq1
  have a1 : (upd H q1 (.lst [.str (Str.ofString "q")])) q1 = some (.lst [.str (Str.ofString "q")]) := upd_same
  generalize upd H q1 (.lst [.str (Str.ofString "q")]) = H1 at s1 a1 ⊢
  refine nil1 fun x dx hx hdx hne => ?_
  have sx : Same H1 (upd (upd H1 dx (.own x)) x (.ins C2 dx [])) := fun b o e => by rw [upd_ne (ne_of_none e hx), upd_ne (ne_of_none e hdx)]; exact e
  refine ⟨x, dx, q1, [113], [[113]], by rw [s_q']; rfl, upd_same, by rw [sx _ _ a1, s_q']; rfl, by decide, ⟨rfl, fun l hl => by rw [List.mem_singleton.mp hl]; exact ⟨fun c hc => hc, by decide⟩⟩, fun H2 hk hch => ⟨rfl, ?_⟩⟩
  have s2 : Same H H2 := s1.trans fun b o e => hk b o (ne_of_none e hx) (sx _ _ e)
  refine ⟨by show 3 ≤ sizeLine; decide, fun p hp => ?_⟩
  refine k _ _ (s2.trans (sm_new hp)) ?_
  have e : ok3 sg o0 (some (some [113])) true = false := by
    have : ¬ [113] = sg := fun h => hq (by rw [← h]; exact List.mem_cons_self)
    simp [ok3, this]
  have := PartV.t3 (sg := sg) (C := C) (C2 := C2) (K := K) (SqT.of (upd_same (H := H2) (a := p) (o := .tup [.ref r, .ref x, .bl false]))) (hr _ (s.trans (s2.trans (sm_new hp)))) (.ch (hch.same (sm_new hp))) (.bl false)
  rw [e] at this
  exact this
theorem rep_txs (k : Nat) (l : List Nat) : (List.replicate k [V.str (S l)]).flatten = txs (List.replicate k l) := by
  induction k with
  | zero => rfl
  | succ k ih => rw [List.replicate_succ, List.flatten_cons, ih]; rfl
theorem rep_of {ys : List V} {l : List Nat} (h : ∀ (j : Nat) y, ys[j]? = some y → y = .str (S l)) : ys = txs (List.replicate ys.length l) := by
  induction ys with
  | nil => rfl
  | cons y ys ih =>
    rw [List.length_cons, List.replicate_succ]
    show y :: ys = .str (S l) :: txs (List.replicate ys.length l)
    rw [← ih fun j z e => h (j + 1) z e, h 0 y rfl]
end
end Toy
set_option maxHeartbeats 2000000
namespace Toy
open PySem L2 C8 SX LX
theorem s_parts : (Str.ofString "parts") = S [112, 97, 114, 116, 115] := by decide +kernel
theorem s_signs : (Str.ofString "signs") = S [115, 105, 103, 110, 115] := by decide +kernel
theorem s_parts' : V.str "parts" = V.str (S [112, 97, 114, 116, 115]) := congrArg V.str s_parts
theorem s_signs' : V.str "signs" = V.str (S [115, 105, 103, 110, 115]) := congrArg V.str s_signs
theorem small_rep {n : Nat} {l : List Nat} (h : ∀ c ∈ l, c < 1114112) : Small (List.replicate n l) := fun m hm => by rw [List.eq_of_mem_replicate hm]; exact h
section
variable {K : PySem.W.Frag} {C C2 : Addr} {v0 v1 v2 v3 v4 v5 v6 v7 v8 v9 v10 v11 v12 v14 v15 : Option V} {sg : List Nat} {o : Addr} {us : List V} {H : Hp} {Q : VK}
theorem word_run {word : Str} {code : List Nat} {targ : TA} (hcode : word = S code) (hc : ∀ c ∈ code, c < 1114112) (ho : H o = some (.lst us)) (hl : us.length ≤ 100)
    (hb : ∀ z ∈ us, ∀ H', Same H H' → ∀ R : VK, (∀ H2, Same H' H2 → R (.str (S code)) H2) → tCall (spWord K C C2) [] C8.E0 targ [v0, v1, v2, v3, v4, v5, v6, v7, v8, v9, v10, v11, v12, some (.ref o), v14, some z] H' R)
    (k : ∀ H', Same H H' → Q (.bl false) H') :
    tOp (rSs K fun b => !b) (tLc (iList K (tVar 13)) (gName 15) tYes (tCall (spWord K C C2) [] C8.E0 targ) (List.map (fun x => x.snd) [((Str.ofString "thing"), 15)]))
      (tOp rRep (tLst (tCons (tC (.str word)) tNil)) (tCB (fun xs H Q => ∃ p ys, xs = [V.ref p] ∧ (SqL K H p ys ∨ SqT K H p ys) ∧ Q (V.int ys.length) H) (tCons (tVar 13) tNil)))
      [v0, v1, v2, v3, v4, v5, v6, v7, v8, v9, v10, v11, v12, some (.ref o), v14, v15] H Q := by
  refine ⟨_, rfl, o, rfl, ⟨_, SqL.of ho⟩, fun Dq hDq => ?_⟩
  refine lc_keep keep_same (walk_list (K := K) (a := o) (xs := us)) hDq (small1000 (by omega)) (fun _ y => y = .str (S code)) (fun H r => SqL.of (r _ _ ho)) (fun j z G1 G1' R hj rr hy hR => ?_) (fun ys H2 hly hgy rr hDs => ?_)
  · obtain ⟨rfl, ez⟩ := hy
    refine ⟨rfl, ?_⟩
    exact hb z (List.mem_of_getElem? ez) _ rr _ fun G2 g2 => hR _ _ g2 rfl
  have eys := rep_of hgy
  rw [hly] at eys
  rw [eys] at hDs
  refine ⟨by show 1 ≤ sizeLine; decide, fun q7 hq7 => ?_⟩
  have sq : Same H2 (upd H2 q7 (.lst [.str word])) := sm_new hq7
  have hq : (upd H2 q7 (.lst [.str word])) q7 = some (.lst [.str word]) := upd_same
  generalize upd H2 q7 (.lst [.str word]) = H3 at sq hq ⊢
  refine ⟨_, rfl, o, us, rfl, .inl (SqL.of (sq _ _ (rr _ _ ho))), ?_⟩
  refine ⟨q7, (us.length : Nat), _, rfl, rfl, hq, by omega, by omega, Nat.le_trans (show [V.str word].length * (us.length : Int).toNat ≤ 1000 by simp; omega) (by decide), fun q8 hq8 => ?_⟩
  have e8 : (List.replicate ((us.length : Nat) : Int).toNat [V.str word]).flatten = txs (List.replicate us.length code) := by rw [Int.toNat_natCast, hcode, rep_txs]
  rw [e8]
  exact ⟨Dq, q8, _, _, rfl, rfl, .inl ⟨SqL.of ((sq.trans (sm_new hq8)) _ _ hDs), SqL.of upd_same⟩, small_rep hc, small_rep hc, by rw [decide_eq_true rfl]; exact k _ ((rr.trans sq).trans (sm_new hq8))⟩
end
end Toy
set_option maxHeartbeats 8000000
namespace Toy
open PySem L2 C8 SX LX
section
variable {P : Program} {w : World} {K : PySem.W.Frag} {mg : Str → Option Value} {base : Heap}
abbrev s_law : Stmt := top 51
abbrev n_law : List Str := ["script", "base", "flow", "signs_here", "drafts", "parts_here", "made", "handed", "other", "reader", "change", "is_back", "far", "odd", "turn", "thing"]
theorem sc_law : FnScope n_law ["script"] (fnScope s_law) := fnScope_by (by decide +kernel)
theorem nxt {D : Ends} {σ : L2.St} {H : Hp} (h : D.nx σ H) : tNext D σ H := h
theorem Draft.fx {f c : Addr} {H H' : Hp} {q pm pd : Addr} {ms : List (List Nat)} {b sg : List Nat} {kvs : List (List Key × V)} (d : Draft K H q pm pd ms b sg kvs) (s : Fx f c H H') (n1 : q ≠ f ∧ q ≠ c) (n2 : pm ≠ f ∧ pm ≠ c) (n3 : pd ≠ f ∧ pd ≠ c) : Draft K H' q pm pd ms b sg kvs :=
  ⟨s.1 _ _ n1.1 n1.2 d.top, s.1 _ _ n2.1 n2.2 d.marks, s.1 _ _ n3.1 n3.2 d.goes, d.full, d.few, d.first, d.nd, d.nm, d.pos⟩
theorem Draft.putL {H : Hp} {q pm pd D : Addr} {zs : List V} {o : HO} {ms : List (List Nat)} {b sg : List Nat} {kvs : List (List Key × V)} (d : Draft K H q pm pd ms b sg kvs) (h : H D = some (.lst zs)) : Draft K (upd H D o) q pm pd ms b sg kvs :=
  ⟨Toy.putL h d.top (by intro ys h; cases h), Toy.putL h d.marks (by intro ys h; cases h), Toy.putL h d.goes (by intro ys h; cases h), d.full, d.few, d.first, d.nd, d.nm, d.pos⟩
def DraftN (K : PySem.W.Frag) (f c : Addr) (H : Hp) (x : V) (sg : List Nat) : Prop := ∃ (q pm pd : Addr) (ms : List (List Nat)) (b : List Nat) (kvs : List (List Key × V)), x = .ref q ∧ Draft K H q pm pd ms b sg kvs ∧ (q ≠ f ∧ q ≠ c) ∧ (pm ≠ f ∧ pm ≠ c) ∧ (pd ≠ f ∧ pd ≠ c)
theorem DraftN.fx {f c : Addr} {H H' : Hp} {x : V} {sg : List Nat} (h : DraftN K f c H x sg) (s : Fx f c H H') : DraftN K f c H' x sg := let ⟨q, pm, pd, ms, b, kvs, e, d, n1, n2, n3⟩ := h; ⟨q, pm, pd, ms, b, kvs, e, d.fx s n1 n2 n3, n1, n2, n3⟩
theorem DraftN.putL {f c D : Addr} {H : Hp} {x : V} {sg : List Nat} {zs : List V} {o : HO} (h : DraftN K f c H x sg) (hD : H D = some (.lst zs)) : DraftN K f c (upd H D o) x sg := let ⟨q, pm, pd, ms, b, kvs, e, d, n⟩ := h; ⟨q, pm, pd, ms, b, kvs, e, d.putL hD, n⟩
theorem DraftN.x {f c : Addr} {H : Hp} {x : V} {sg : List Nat} (h : DraftN K f c H x sg) : DraftX K H x sg := let ⟨q, pm, pd, ms, b, kvs, e, d, _⟩ := h; ⟨q, pm, pd, ms, b, kvs, e, d⟩
def PDN (f c : Addr) (H : Hp) (v : V) (sg : List Nat) (n : Nat) : Prop := ∃ (q : Addr) (d : Nat) (im : V) (b : Bool), v = .ref q ∧ H q = some (.tup [.int (d : Nat), im, .bl b]) ∧ (q ≠ f ∧ q ≠ c) ∧ d < n ∧ (im = .non ∨ ∃ (t : Addr) (ims : List (List Nat)), im = .ref t ∧ H t = some (.tup (txs ims)) ∧ (t ≠ f ∧ t ≠ c) ∧ Ims sg ims 6)
theorem PDN.fx {f c : Addr} {H H' : Hp} {v : V} {sg : List Nat} {n : Nat} (h : PDN f c H v sg n) (s : Fx f c H H') : PDN f c H' v sg n := by
  obtain ⟨q, d, im, b, e, h1, n1, h2, h3⟩ := h
  refine ⟨q, d, im, b, e, s.1 _ _ n1.1 n1.2 h1, n1, h2, ?_⟩
  rcases h3 with h3 | ⟨t, ims, e, h3, n3, h4⟩
  · exact .inl h3
  · exact .inr ⟨t, ims, e, s.1 _ _ n3.1 n3.2 h3, n3, h4⟩
theorem PDN.putL {f c D : Addr} {H : Hp} {v : V} {sg : List Nat} {n : Nat} {zs : List V} {o : HO} (h : PDN f c H v sg n) (hD : H D = some (.lst zs)) : PDN f c (upd H D o) v sg n := by
  obtain ⟨q, d, im, b, e, h1, n1, h2, h3⟩ := h
  refine ⟨q, d, im, b, e, Toy.putL hD h1 (by intro ys h; cases h), n1, h2, ?_⟩
  rcases h3 with h3 | ⟨t, ims, e, h3, n3, h4⟩
  · exact .inl h3
  · exact .inr ⟨t, ims, e, Toy.putL hD h3 (by intro ys h; cases h), n3, h4⟩
theorem PDN.pd {f c : Addr} {H : Hp} {v : V} {sg : List Nat} {n : Nat} (h : PDN f c H v sg n) : PD H v sg n := by
  obtain ⟨q, d, im, b, e, h1, n1, h2, h3⟩ := h
  refine ⟨q, d, im, b, e, h1, h2, ?_⟩
  rcases h3 with h3 | ⟨t, ims, e, h3, n3, h4⟩
  · exact .inl h3
  · exact .inr ⟨t, ims, e, h3, h4⟩
theorem Same.fx {f c : Addr} {H H1 H2 : Hp} (s : Same H H1) (nf : H f = none) (nc : H c = none) (r : Fx f c H1 H2) : Same H H2 := fun b o e => r.1 b o (fun z => by rw [z, nf] at e; cases e) (fun z => by rw [z, nc] at e; cases e) (s b o e)
theorem slA_one {H : Hp} {a : Addr} {xs : List V} {Q : VK} (hp : SqT K H a xs) (h1 : 1 ≤ xs.length) (k : ∀ (u : Addr) (H' : Hp), Same H H' → SqT K H' u (xs.take 1) → Q (.ref u) H') : rSlA K (.ref a) none (some 1) H Q := by
  refine ⟨a, xs, rfl, hp, fun hw => ?_, fun _ p hp' => ?_⟩
  · have e1 : HT.sIx xs.length xs.length (some 1) = 1 := by
      rw [show (1 : Int) = ((1 : Nat) : Int) from rfl, HT.sIx_nat, Nat.min_eq_left h1]
    have e : xs.take 1 = xs := List.take_of_length_le (by omega)
    exact k a H (Same.refl H) (by rw [e]; exact hp)
  · rw [show (1 : Int) = ((1 : Nat) : Int) from rfl, cut_any]
    exact k p _ (sm_new hp') (SqT.of upd_same)
theorem gparts_more {C C2 : Addr} {H : Hp} {xs : List V} {sg ns : List Nat} (h : GParts K C C2 H xs sg ns) : GParts K C C2 H (xs ++ xs.take 1) sg (ns ++ ns.take 1) := by
  refine ⟨by simp only [List.length_append, List.length_take, h.1], fun i v n e1 e2 => ?_⟩
  by_cases hi : i < xs.length
  · rw [List.getElem?_append_left hi] at e1
    rw [List.getElem?_append_left (by rw [← h.1]; exact hi)] at e2
    exact h.2 i v n e1 e2
  · rw [List.getElem?_append_right (by omega)] at e1
    rw [List.getElem?_append_right (by rw [← h.1]; omega), ← h.1] at e2
    rw [List.getElem?_take] at e1 e2
    split at e1
    · exact h.2 _ v n e1 (by rw [if_pos (by assumption)] at e2; exact e2)
    · cases e1
theorem same_more {xs ys : List V} (h : SameR xs xs) : SameR xs (xs ++ ys) := fun i u v e1 e2 => by
  have hi := (List.getElem?_eq_some_iff.mp e1).1
  rw [List.getElem?_append_left hi] at e2
  exact h i u v e1 e2
theorem sum_take1 (ns : List Nat) : (ns ++ ns.take 1).sum ≤ 2 * ns.sum := by
  rw [List.sum_append]
  have := take_sum_le ns 1
  omega
theorem s_ba : (Str.ofString "ba") = S [98, 97] := by decide +kernel
theorem s_aa : (Str.ofString "aa") = S [97, 97] := by decide +kernel
theorem s_A : (Str.ofString "A") = S [65] := by decide +kernel
theorem s_a1 : (Str.ofString "a1") = S [97, 49] := by decide +kernel
theorem s_abcd : (Str.ofString "abcd") = S [97, 98, 99, 100] := by decide +kernel
theorem s_q : (Str.ofString "q") = S [113] := by decide +kernel
theorem good_far : Good [113] [[110, 111]] [110, 111] fun _ _ => [110, 111] := ⟨by decide, by decide, by decide, by decide, by decide, by decide, by decide⟩
structure Kits (K : PySem.W.Frag) (C C2 CS : Addr) : Prop where
  n0 : PySem.W.kitOne K (.type "NoneType") (.ref C) = some false
  s0 : PySem.W.kitOne K (.type "str") (.ref C) = some false
  s1 : PySem.W.kitOne K (.type "str") (.ref C2) = some false
  tS : PySem.W.kitOne K (.type "tuple") (.ref CS) = some false
  rl : PySem.W.kitOne K (.ref C) (.type "list") = some false
  rt : PySem.W.kitOne K (.ref C) (.type "tuple") = some false
  nf : PySem.W.notFirst K CS (.type "tuple") = true
def swap2 (us ws : List V) : List V := match ws with
  | [a, b] => us ++ [b, a]
  | _ => us
def spLaw (K : PySem.W.Frag) : Sp := fun vs H Q _ => ∃ (a : Addr) (ns : List Int), vs = [.ref a] ∧ SqL K H a (ns.map V.int) ∧ ns.length ≤ 63 ∧ ∀ H', Q (.bl true) H'
theorem ok_law {C C2 CS CI : Addr} (T : BT mg) (CH : CR K C) (CS_ : CSt K CS) (insC : InsC K C) (nS : NeC K CS) (kt : Kits K C C2 CS) (c_flow : Cal P w K mg base 1 "_law_flow" (spFlow K) []) (c_less : Cal P w K mg base 1 "_law_less" spLess []) (c_letters : Cal P w K mg base 3 "_law_letters" spLetters []) (c_draft : Cal P w K mg base 3 "_law_draft" (spDraft K) [])
    (c_part : Cal P w K mg base 5 "_law_part" (spPart K) []) (c_lsight : Cal P w K mg base 10 "_law_sight" (spLSight K C C2 CS) []) (ck_Sight : MakXK P w K mg base 8 "Sight" CS ["parts", "signs"] swap2 (spSInit K C C2 CS CI)) (c_Sight : MakX P w K mg base 8 "Sight" CS (spSInit K C C2 CS CI)) (c_slen : Met P w K mg base 1 CS "__len__" (spSLen CS) []) (c_seq : Met P w K mg base 1 CS "__eq__" (spSEq K CS) [])
    (c_Reader : Mak P w K mg base 5 "Reader" C (spInit C) []) (c_Change : Mak P w K mg base 4 "Change" C2 (spCInit C2) []) (c_word : Cal P w K mg base 10 "_law_word" (spWord K C C2) [])
    {f : Addr} {fd : FuncData} (F : Def K mg "law" s_law f fd) : FnG P w K mg base 11 f fd ["script"] (spLaw K) := by
  refine fnG0 F.fn sc_law (fun vs H Q E h => ?_) (fun cd A ou t0 H vs Q E gd hr h => ?_)
  · obtain ⟨a, ns, rfl, _⟩ := h; rfl
  · obtain ⟨a, ns, rfl, ha, hl, kk⟩ := h
    refine ⟨_, (pss_cons (ps_for PassesOwn.never rfl (pi_range1 (by rfl) T.m_range (pa_cons (pe_callB (call_max2 rfl) (by rfl) T.m_max PyProof.Rows.boot_max (pa_cons pe_int (pa_cons (pe_callB (call_min2 rfl) (by rfl) T.m_min PyProof.Rows.boot_min (pa_cons pe_int (pa_cons (pe_callB (lenK K) (by rfl) T.m_len PySem.boot_len (pa_cons (pv 0) pa_nil)) pa_nil))) pa_nil))) pa_nil)) (pg_name (i := 1) sc_law.nd rfl (.inl rfl)) 
        (pss_cons (ps_set (i := 2) sc_law.nd rfl (.inr rfl) (pe_c c_flow hr (by first | decide | omega) (by rfl) (pa_cons (pv 0) (pa_cons (pv 1) pa_nil))))
        (pss_cons (ps_set (i := 3) sc_law.nd rfl (.inr rfl) (pe_c c_letters hr (by first | decide | omega) (by rfl) (pa_cons (pv 2) (pa_cons pe_int pa_nil))))
        (pss_cons (ps_set (i := 4) sc_law.nd rfl (.inr rfl) (pe_lc (own := [("turn", 14)]) rfl sc_law.nd (pi_range1 (by rfl) T.m_range (pa_cons pe_int pa_nil)) (blkOk_by (N := n_law) (sc := fnScope s_law) (by decide +kernel)) (fun _ _ _ _ _ => (pg_name (i := 14) sc_law.nd rfl (.inl rfl))) (fun _ _ _ _ _ => pts_nil) (fun _ _ _ _ _ => (pe_c c_draft hr (by first | decide | omega) (by rfl) (pa_cons (pv 2) (pa_cons (pv 3) (pa_cons pe_int pa_nil)))))))
        (pss_cons (ps_setLc (i := 5) (own := [("turn", 14)]) rfl sc_law.nd rfl rfl rfl (pi_range1 (by rfl) T.m_range (pa_cons (pe_op op_add pe_int (pe_c c_less hr (by first | decide | omega) (by rfl) (pa_cons (pv 2) (pa_cons pe_int pa_nil)))) pa_nil)) (blkOk_by (N := n_law) (sc := fnScope s_law) (by decide +kernel)) (fun _ _ _ _ _ => (pg_name (i := 14) sc_law.nd rfl (.inl rfl))) (fun _ _ _ _ _ => pts_nil) (fun _ _ _ _ _ => (pe_c c_part hr (by first | decide | omega) (by rfl) (pa_cons (pv 2) (pa_cons (pv 3) (pa_cons (pv 4) pa_nil))))))
        (pss_cons (ps_set (i := 6) sc_law.nd rfl (.inl rfl) (pe_c c_lsight hr (by first | decide | omega) (by rfl) (pa_cons (pv 3) (pa_cons (pv 4) (pa_cons (pv 5) pa_nil)))))
        (pss_cons (ps_set (i := 7) sc_law.nd rfl (.inl rfl) (pe_callTy (listK K) (by rfl) T.m_list PyProof.Rows.boot_list (pa_cons (fldK K (pv 6) rfl) pa_nil)))
        (pss_cons (ps_set (i := 8) sc_law.nd rfl (.inl rfl) (pe_mkXk ck_Sight takes_none5 hr (by decide) (by rfl) (pk_cons (pv 7) (pk_cons (pv 3) pk_nil))))
        (pss_cons (ps_expr (pe_bm PySem.F.plainAttrs_list PySem.F.slot_list_append PySem.F.type_list_append mt_append (pv 7) (pa_cons pe_non pa_nil)))
        (pss_cons (ps_if (PW.pt (pw_or (pt_cmpR (op_neI nS c_seq hr (by decide)) (pv 6) (pv 8) (nomark _)) (pw_or (pt_cmpR op_ne (pe_callB (call_lenI c_slen hr (by decide)) (by rfl) T.m_len PySem.boot_len (pa_cons (pv 6) pa_nil)) (pe_callB (lenK K) (by rfl) T.m_len PySem.boot_len (pa_cons (pv 5) pa_nil)) (nomark _)) (pw_or (pt_cmpR op_ne (fldK K (pv 6) rfl) (pv 3) (nomark _)) (pw_or1 (pt_cmpR (op_neIdK K hr) (fldK K (pv 8) rfl) (fldK K (pv 6) rfl) (nomark _))))))) 
          (pss_one (ps_ret pe_bl)
          )
         pss_nil)
        (pss_cons (ps_if (PW.pt (pw_or (pt_cmpR (op_eqIV c_seq hr (by decide)) (pv 6) (fldK K (pv 6) rfl) (nomark _)) (pw_or1 (pt_cmpR (op_eqI c_seq hr (by decide)) (pv 6) (pe_mkX c_Sight takes_none5 hr (by decide) (by rfl) (pa_cons (pv 3) (pa_cons (pe_op op_catA (fldK K (pv 6) rfl) (pe_slice sl_tupA (fldK K (pv 6) rfl) po_none (po_some pe_int))) pa_nil))) (nomark _))))) 
          (pss_one (ps_ret pe_bl)
          )
         pss_nil)
        (pss_cons (ps_asg (pe_ix (ixt K) (fldK K (pv 6) rfl) pe_int (fun _ _ => rfl)) (tupK K 3 (pgs_cons (pg_name (i := 9) sc_law.nd rfl (.inl rfl)) (pgs_cons (pg_name (i := 10) sc_law.nd rfl (.inl rfl)) (pgs_cons (pg_name (i := 11) sc_law.nd rfl (.inl rfl)) pgs_nil)))))
        (pss_cons (ps_set (i := 12) sc_law.nd rfl (.inl rfl) (pe_mk c_Reader hr (by decide) (by rfl) (pa_cons pe_str (pa_cons (pe_lst (pa_cons pe_str pa_nil)) (pa_cons pe_str (pa_cons (pe_lst (pa_cons (pe_lst (pa_cons pe_str pa_nil)) pa_nil)) pa_nil))))))
        (pss_cons (ps_set (i := 13) sc_law.nd rfl (.inl rfl) (pe_lst (pa_cons pe_non (pa_cons (pe_lst pa_nil) (pa_cons (pe_tup pa_nil) (pa_cons pe_str (pa_cons pe_int (pa_cons (pe_lst (pa_cons pe_non pa_nil)) (pa_cons (pe_lst (pa_cons (pe_tup (pa_cons (pv 9) (pa_cons pe_non pa_nil))) pa_nil)) (pa_cons (pe_lst (pa_cons (pe_lst (pa_cons (pv 9) (pa_cons pe_non (pa_cons pe_bl pa_nil)))) pa_nil)) (pa_cons (pe_lst (pa_cons (pe_tup (pa_cons (pv 9) (pa_cons pe_non (pa_cons pe_int pa_nil)))) pa_nil)) pa_nil)))))))))))
        (pss_cons (ps_set (i := 13) sc_law.nd rfl (.inl rfl) (pe_op op_cat (pv 13) (pe_lst (pa_cons (pe_lst (pa_cons (pe_tup (pa_cons pe_non (pa_cons pe_non (pa_cons pe_bl pa_nil)))) pa_nil)) (pa_cons (pe_lst (pa_cons (pe_tup (pa_cons pe_str (pa_cons pe_non (pa_cons pe_bl pa_nil)))) pa_nil)) (pa_cons (pe_lst (pa_cons (pe_tup (pa_cons (pv 12) (pa_cons pe_non (pa_cons pe_bl pa_nil)))) pa_nil)) (pa_cons (pe_lst (pa_cons (pe_tup (pa_cons (pv 9) (pa_cons pe_str (pa_cons pe_bl pa_nil)))) pa_nil)) (pa_cons (pv 9) pa_nil))))))))
        (pss_cons (ps_set (i := 13) sc_law.nd rfl (.inl rfl) (pe_op op_cat (pv 13) (pe_lst (pa_cons (pe_lst (pa_cons (pe_tup (pa_cons (pv 9) (pa_cons (pe_mk c_Change hr (by decide) (by rfl) (pa_cons pe_str (pa_cons (pe_lst (pa_cons pe_str pa_nil)) pa_nil))) (pa_cons pe_bl pa_nil)))) pa_nil)) (pa_cons (pe_lst (pa_cons (pe_ix (ixt K) (fldK K (pv 6) rfl) pe_int (fun _ _ => rfl)) (pa_cons (pe_tup (pa_cons (pv 9) (pa_cons pe_non (pa_cons pe_non pa_nil)))) pa_nil))) pa_nil)))))
        (pss_cons (ps_expr (pe_bm PySem.F.plainAttrs_list PySem.F.slot_list_append PySem.F.type_list_append mt_append (pv 13) (pa_cons (pe_lst (pa_cons (pe_tup (pa_cons (pv 9) (pa_cons pe_non (pa_cons pe_bl (pa_cons pe_int pa_nil))))) pa_nil)) pa_nil)))
        (pss_cons (ps_if (pt_cmpR (op_neSs hr) (pe_lc (own := [("thing", 15)]) rfl sc_law.nd (pi_list (pv 13)) (blkOk_by (N := n_law) (sc := fnScope s_law) (by decide +kernel)) (fun _ _ _ _ _ => (pg_name (i := 15) sc_law.nd rfl (.inl rfl))) (fun _ _ _ _ _ => pts_nil) (fun _ _ _ _ _ => (pe_c c_word hr (by first | decide | omega) (by rfl) (pa_cons (pv 3) (pa_cons (pv 15) pa_nil))))) (pe_op op_rep (pe_lst (pa_cons pe_str pa_nil)) (pe_callB (lenK K) (by rfl) T.m_len PySem.boot_len (pa_cons (pv 13) pa_nil))) (nomark _)) 
          (pss_one (ps_ret pe_bl)
          )
         pss_nil)
        (pss_cons (ps_set (i := 13) sc_law.nd rfl (.inl rfl) (pe_lst (pa_cons pe_non (pa_cons pe_str (pa_cons pe_str (pa_cons pe_str (pa_cons pe_str (pa_cons pe_str (pa_cons pe_int (pa_cons (pe_tup (pa_cons pe_str pa_nil)) (pa_cons (pe_lst (pa_cons pe_str pa_nil)) (pa_cons pe_str pa_nil))))))))))))
        (pss_cons (ps_if (pt_cmpR (op_neSs hr) (pe_lc (own := [("thing", 15)]) rfl sc_law.nd (pi_list (pv 13)) (blkOk_by (N := n_law) (sc := fnScope s_law) (by decide +kernel)) (fun _ _ _ _ _ => (pg_name (i := 15) sc_law.nd rfl (.inl rfl))) (fun _ _ _ _ _ => pts_nil) (fun _ _ _ _ _ => (pe_c c_word hr (by first | decide | omega) (by rfl) (pa_cons (pv 15) (pa_cons pe_non pa_nil))))) (pe_op op_rep (pe_lst (pa_cons pe_str pa_nil)) (pe_callB (lenK K) (by rfl) T.m_len PySem.boot_len (pa_cons (pv 13) pa_nil))) (nomark _)) 
          (pss_one (ps_ret pe_bl)
          )
         pss_nil)
        (pss_one (ps_if (PW.pt (pw_or (pt_cmpR op_notN (pe_c c_word hr (by first | decide | omega) (by rfl) (pa_cons (pv 3) (pa_cons (fldK K (pv 6) rfl) pa_nil))) pe_non (nomark _)) (pw_or1 (pt_cmpR op_notN (pe_c c_word hr (by first | decide | omega) (by rfl) (pa_cons (pv 3) (pa_cons (pe_callTy (listK K) (by rfl) T.m_list PyProof.Rows.boot_list (pa_cons (fldK K (pv 6) rfl) pa_nil)) pa_nil))) pe_non (nomark _))))) 
          (pss_one (ps_ret pe_bl)
          )
         pss_nil)
        )))))))))))))))))))))
      (pss_one (ps_ret pe_bl)
      )), ?_⟩
    refine ⟨_, rfl, a, _, rfl, .inl ha, _, _, rfl, _, _, rfl, _, rfl, ?_⟩
    rw [List.length_map]
    have hM : 0 ≤ (if (if (ns.length : Int) < 3 then (ns.length : Int) else 3) > 1 then (if (ns.length : Int) < 3 then (ns.length : Int) else 3) else 1) ∧ (if (if (ns.length : Int) < 3 then (ns.length : Int) else 3) > 1 then (if (ns.length : Int) < 3 then (ns.length : Int) else 3) else 1) ≤ 3 := by
      split <;> split <;> omega
    generalize (if (if (ns.length : Int) < 3 then (ns.length : Int) else 3) > 1 then (if (ns.length : Int) < 3 then (ns.length : Int) else 3) else 1) = M at hM ⊢
    refine ⟨by omega, by omega, ?_⟩
    refine for_it (walk_range (lo := 0)) (fun i σ H' => (∃ s1 s2 s3 s4 s5 s6 s7 s8 s9 s10 s11 s12 s13 s14 s15 : Option V, σ = [some (.ref a), s1, s2, s3, s4, s5, s6, s7, s8, s9, s10, s11, s12, s13, s14, s15]) ∧ Same H H')
      ⟨⟨_, _, _, _, _, _, _, _, _, _, _, _, _, _, _, rfl⟩, Same.refl _⟩ (fun _ _ _ _ _ => trivial) ?_ ?_
    · rintro i x σ H1 H1' hi ⟨⟨s1, s2, s3, s4, s5, s6, s7, s8, s9, s10, s11, s12, s13, s14, s15, rfl⟩, e1⟩ ⟨rfl, rfl⟩
      have hi3 : i < 3 := by omega
      clear hi hM
      refine ⟨_, rfl, _, rfl, a, i, ns, by show [V.ref a, V.int (0 + (i : Int))] = _; rw [Int.zero_add], e1.seq ha, hl, by omega, fun fl c H2 h2 nf nc hfl => ?_⟩
      refine ⟨_, rfl, fl, c, 3, rfl, hfl, by decide, by decide, fun sg H3 hsg h113 hlen hB3 => ?_⟩
      have hs1 := hsg.2.1
      have hs3 := hsg.2.2.1
      refine ⟨2, rfl, by decide, by decide, fun D1 hD1 => ?_⟩
      refine lc_keepH (keep_fx hB3.2) (walk_range (lo := 0) (n := 2)) hD1 (by show 2 < sizeLine; decide) (fun j y H => DraftN K fl c H y sg) (fun _ _ => trivial) (fun i y H H' _ r h => h.fx r) (fun i y H acc o _ hDa h => h.putL hDa) (fun j x H4 H4' acc R hj r4 hDa hy hR => ?_) (fun ds H4 hdl hdg r4 hD1s => ?_)
      · obtain ⟨rfl, rfl⟩ := hy
        refine ⟨rfl, ?_⟩
        refine ⟨_, rfl, _, rfl, fl, c, sg, 2, rfl, r4.2, hs1, hs3, by decide, by decide, fun q pm pd ms b kvs H5 hB5 nq npm npd hd hml => ?_⟩
        exact hR _ _ hB5 ⟨q, pm, pd, ms, b, kvs, rfl, hd, flow_ne r4.2 nq, flow_ne r4.2 npm, flow_ne r4.2 npd⟩
      have hdl : ds.length = 2 := hdl
      have hD1n := flow_ne hB3.2 hD1
      have hD10 : H2 D1 = none := hB3.free hD1
      have r24 : Fx fl c H2 H4 := hB3.trans r4
      have hds4 : ∀ x ∈ ds, DraftN K fl c H4 x sg := fun x hx => by
        obtain ⟨j, hj⟩ := List.getElem?_of_mem hx
        exact hdg j x hj
      refine ⟨_, rfl, fl, c, 3, rfl, r4.2, by decide, by decide, fun d H5 d0 d1 hB5 => ?_⟩
      refine ⟨1, d, rfl, rfl, ?_⟩
      have r25 := r24.trans hB5
      have hD15 := hB5.1 _ _ hD1n.1 hD1n.2 hD1s
      refine ⟨1 + d, rfl, by omega, by omega, fun D2 hD2 => ?_⟩
      refine lc_keepH (keep_fx hB5.2) (walk_range (lo := 0) (n := (1 + d).toNat)) hD2 (small1000 (by omega)) (fun j y H => PDN fl c H y sg 2) (fun _ _ => trivial) (fun i y H H' _ r h => h.fx r) (fun i y H acc o _ hDa h => h.putL hDa) (fun j x H6 H6' acc R hj r6 hDa hy hR => ?_) (fun ps H6 hpl hpg r6 hD2s => ?_)
      · obtain ⟨rfl, rfl⟩ := hy
        refine ⟨rfl, ?_⟩
        refine ⟨_, rfl, _, rfl, _, rfl, fl, c, D1, sg, ds, rfl, r6.2, hs1, hs3, hD1n.1, hD1n.2, SqL.of (r6.1 _ _ hD1n.1 hD1n.2 hD15), by omega, by omega, fun q e im b H7 r7 hq0 hq hde him => ?_⟩
        refine hR _ _ r7 ⟨q, e, im, b, rfl, hq, flow_ne r6.2 hq0, by omega, ?_⟩
        rcases him with rfl | ⟨t, ims, rfl, ht0, ht, hi6⟩
        · exact .inl rfl
        · exact .inr ⟨t, ims, rfl, ht, flow_ne r6.2 ht0, hi6⟩
      have hD2n := flow_ne hB5.2 hD2
      have hD16 := r6.1 _ _ hD1n.1 hD1n.2 hD15
      have r26 := r25.trans r6
      have e6 : Same H1' H6 := Same.fx h2 nf nc r26
      have hds6 : ∀ x ∈ ds, DraftX K H6 x sg := fun x hx => ((hds4 x hx).fx (hB5.trans r6)).x
      have hps6 : ∀ x ∈ ps, PD H6 x sg ds.length := fun x hx => by
        obtain ⟨j, hj⟩ := List.getElem?_of_mem hx
        rw [hdl]; exact (hpg j x hj).pd
      have e0 := e1.trans e6
      clear hds4 hdg hpg r26 r25 r24 r6 hB5 hB3 r4 hD15 hD1s hfl h2 nf nc hD1 hD2 hD10
      refine ⟨_, rfl, _, rfl, _, rfl, sg, D1, D2, ds, ps, rfl, hsg, hD16, hds6, hD2s, hps6, by omega, by omega, fun ma pt xs ns2 H7 s7 hma0 hsi hgp hnl hns => ?_⟩
      have e7 := e0.trans s7
      have hD27 := s7 _ _ hD2s
      have hxl : xs.length = ps.length := by have := hgp.1; omega
      have hp0 : 0 < ps.length := by omega
      have hp9 : ps.length ≤ 9 := by omega
      clear hds6 hps6 hD16 hD2s e0 s7 hma0 hD1n hD2n e6 hpl hdl d0 d1 e1
      obtain ⟨dx, pl, hma, hpt⟩ := id hsi
      refine ⟨_, rfl, ma, CS, dx, _, _, rfl, hma, CS_.cl, CS_.nP, (show _ = some (V.ref pt) by rfl), pt, xs, rfl, .inr (SqT.of hpt), fun hh hhd => ?_⟩
      have s8 : Same H7 (upd H7 hh (.lst xs)) := sm_new hhd
      have hh8 : (upd H7 hh (.lst xs)) hh = some (.lst xs) := upd_same
      generalize upd H7 hh (.lst xs) = H8 at s8 hh8 ⊢
      refine ⟨_, rfl, _, rfl, rfl, fun x ex hx hex hne => ?_⟩
      have sx : Same H8 (upd (upd H8 ex (.own x)) x (.ins CS ex [])) := fun b o e => by rw [upd_ne (ne_of_none e hx), upd_ne (ne_of_none e hex)]; exact e
      refine ⟨x, ex, .str (S sg), .ref hh, H8, rfl, upd_same, sx, hx, .inr (.inr ⟨sg, hh, true, xs, ns2, rfl, hsg, rfl, hh8, hgp.same s8, by omega, by omega, by omega, fun qt H9 s9 hso _ => ⟨rfl, ?_⟩⟩)⟩
      have hh9 := s9 _ _ hh8
      refine ⟨_, rfl, .inl ⟨rfl, _, SqL.of hh9⟩, ?_⟩
      refine ⟨hh, xs, _, rfl, rfl, hh9, small1000 (by omega), ?_⟩
      have s10 : Same H7 (upd H9 hh (.lst (xs ++ [.non]))) := sm_put_own (s8.trans s9) hhd
      have hso10 : SightAt CS (upd H9 hh (.lst (xs ++ [.non]))) x sg qt xs := by
        obtain ⟨dx', pl', b1, b2⟩ := hso
        exact ⟨dx', pl', Toy.putL hh9 b1 (by intro ys h; cases h), Toy.putL hh9 b2 (by intro ys h; cases h)⟩
      generalize upd H9 hh (.lst (xs ++ [.non])) = H10 at s10 hso10 ⊢
      have hsi10 := hsi.same s10
      have hgp10 := hgp.same s10
      have hma10 := s10 _ _ hma
      have hpt10 := s10 _ _ hpt
      have hD10 := s10 _ _ hD27
      have e10 := e7.trans s10
      clear hh9 hso s9 sx hne hex hx hh8 s8 hhd hD27 hpt hma e7 hsi hgp s10
      obtain ⟨dx', pl', hx10, hqt10⟩ := id hso10
      have hsame : SameR xs xs := fun j u v h1 h2 => by
        rw [h1] at h2; cases h2
        have hj : j < ns2.length := by have := hgp10.1; have := (List.getElem?_eq_some_iff.mp h1).1; omega
        obtain ⟨p, _, _, _, _, _, _, e, _⟩ := hgp10.2 j u _ h1 (List.getElem?_eq_getElem hj)
        exact ⟨rfl, p, e⟩
      refine ⟨_, rfl, _, rfl, ma, x, dx, dx', _, _, rfl, rfl, hma10, hx10, ?_⟩
      refine ⟨ma, .ref x, pt, sg, xs, rfl, hsi10, .inl ⟨x, qt, xs, rfl, hso10, hsame, ⟨_, rfl, ?_⟩⟩⟩
      refine ⟨_, rfl, iteN (by simp) ?_⟩
      refine ⟨_, rfl, ma, dx, _, rfl, hma10, ?_⟩
      refine ⟨ma, pt, sg, xs, rfl, hsi10, ⟨xs.length, rfl, by omega, ?_⟩⟩
      refine ⟨_, rfl, D2, ps, rfl, .inl (SqL.of hD10), ?_⟩
      refine ⟨rfl, _, rfl, iteN (by rw [hxl]; simp) ?_⟩
      refine ⟨_, rfl, ma, CS, dx, _, _, rfl, hma10, CS_.cl, CS_.nS, (show _ = some (V.str (S sg)) by rfl), _, rfl, rfl, _, rfl, iteN (by simp) ?_⟩
      refine ⟨_, rfl, x, CS, dx', _, _, rfl, hx10, CS_.cl, CS_.nP, (show _ = some (V.ref qt) by rfl), _, rfl, ma, CS, dx, _, _, rfl, hma10, CS_.cl, CS_.nP, (show _ = some (V.ref pt) by rfl), qt, pt, xs, xs, rfl, rfl, SqT.of hqt10, SqT.of hpt10, hsame, _, rfl, iteN (by simp) ?_⟩
      refine nxt ?_
      dsimp only
      refine ⟨_, rfl, _, rfl, ma, CS, dx, _, _, rfl, hma10, CS_.cl, CS_.nP, (show _ = some (V.ref pt) by rfl), ?_⟩
      refine ⟨ma, dx, _, _, rfl, hma10, ty_seqT (SqT.of hpt10), kt.nf, ?_⟩
      refine ⟨ma, .ref pt, pt, sg, xs, rfl, hsi10, .inr ⟨_, ty_seqT (SqT.of hpt10), kt.tS, ⟨false, rfl, ?_⟩⟩⟩
      refine ⟨_, rfl, iteN rfl ?_⟩
      refine ⟨_, rfl, _, rfl, _, rfl, ma, CS, dx, _, _, rfl, hma10, CS_.cl, CS_.nP, (show _ = some (V.ref pt) by rfl), ?_⟩
      refine ⟨_, rfl, ma, CS, dx, _, _, rfl, hma10, CS_.cl, CS_.nP, (show _ = some (V.ref pt) by rfl), ?_⟩
      refine ⟨1, rfl, ?_⟩
      refine slA_one (SqT.of hpt10) (by omega) fun u H11 s11 hu => ?_
      have hne1 : xs ≠ [] := fun h => by rw [h] at hxl; simp at hxl; omega
      have htl : (xs.take 1).length = 1 := by rw [List.length_take]; omega
      have hne2 : xs.take 1 ≠ [] := fun h => by rw [h] at htl; cases htl
      refine ⟨pt, u, xs, xs.take 1, rfl, rfl, sm_seqT s11 (SqT.of hpt10), hu, Nat.le_trans (show xs.length + (xs.take 1).length ≤ 1000 by omega) (by decide), fun h => absurd h hne1, fun _ h => absurd h hne2, fun _ _ q hq => ?_⟩
      have s12 : Same H10 (upd H11 q (.tup (xs ++ xs.take 1))) := sm_put' s11 hq
      have hq12 : (upd H11 q (.tup (xs ++ xs.take 1))) q = some (.tup (xs ++ xs.take 1)) := upd_same
      generalize upd H11 q (.tup (xs ++ xs.take 1)) = H12 at s12 hq12 ⊢
      refine nil1 fun x2 ex2 hx2 hex2 hne2' => ?_
      have sx2 : Same H12 (upd (upd H12 ex2 (.own x2)) x2 (.ins CS ex2 [])) := fun b o e => by rw [upd_ne (ne_of_none e hx2), upd_ne (ne_of_none e hex2)]; exact e
      have hns2 := sum_take1 ns2
      have hnl2 : (ns2 ++ ns2.take 1).length ≤ 20 ∧ 0 < (ns2 ++ ns2.take 1).length := by rw [List.length_append, List.length_take]; omega
      refine ⟨x2, ex2, .str (S sg), .ref q, H12, rfl, upd_same, sx2, hx2, .inr (.inr ⟨sg, q, false, xs ++ xs.take 1, ns2 ++ ns2.take 1, rfl, hsg, rfl, hq12, gparts_more (hgp10.same s12), hnl2.2, hnl2.1, by omega, fun rt H13 s13 hs3 _ => ⟨rfl, ?_⟩⟩)⟩
      have s1013 := s12.trans s13
      obtain ⟨dx3, pl3, hx3, hrt3⟩ := id hs3
      refine ⟨ma, x2, dx, dx3, _, _, rfl, rfl, s1013 _ _ hma10, hx3, ?_⟩
      refine ⟨ma, .ref x2, pt, sg, xs, rfl, hsi10.same s1013, .inl ⟨x2, rt, xs ++ xs.take 1, rfl, hs3, same_more hsame, ⟨_, rfl, ?_⟩⟩⟩
      refine ⟨_, rfl, iteN (decide_eq_false (by rw [List.length_append]; omega)) ?_⟩
      refine nxt ?_
      dsimp only
      have hma := s1013 _ _ hma10
      have hpt := s1013 _ _ hpt10
      have hgp := hgp10.same s1013
      have e13 := e10.trans s1013
      clear hx3 hrt3 hs3 s13 sx2 hx2 hex2 hne2' hq12 s12 hq hu s11 hsi10 hma10 hpt10 hgp10 e10 hqt10 hx10 hso10 hsame hD10 s1013
      obtain ⟨x0, hx0⟩ : ∃ x0, xs[0]? = some x0 := ⟨_, List.getElem?_eq_getElem (by omega)⟩
      obtain ⟨n0, hn0⟩ : ∃ n0, ns2[0]? = some n0 := ⟨_, List.getElem?_eq_getElem (by omega)⟩
      have hg0 := hgp.2 0 x0 n0 hx0 hn0
      obtain ⟨p0, r, cv, b0, ms, f0, tg, rfl, hp0', hrd, hgd, _, _⟩ := id hg0
      refine ⟨_, rfl, ma, CS, dx, _, _, rfl, hma, CS_.cl, CS_.nP, (show _ = some (V.ref pt) by rfl), ?_⟩
      refine ⟨pt, xs, 0, .ref p0, rfl, rfl, SqT.of hpt, at_first hx0, ?_⟩
      refine ⟨p0, _, rfl, hp0', rfl, _, _, rfl, _, _, rfl, _, _, rfl, rfl, ?_⟩
      refine ⟨by show 1 ≤ sizeLine; decide, fun q1 hq1 => ?_⟩
      refine ⟨by show 1 ≤ sizeLine; decide, fun q2 hq2 => ?_⟩
      refine ⟨by show 1 ≤ sizeLine; decide, fun q3 hq3 => ?_⟩
      have t1 : Same H13 (upd H13 q1 (.lst [.str (Str.ofString "no")])) := sm_new hq1
      have a1 : (upd H13 q1 (.lst [.str (Str.ofString "no")])) q1 = some (.lst [.str (Str.ofString "no")]) := upd_same
      generalize upd H13 q1 (.lst [.str (Str.ofString "no")]) = G1 at t1 a1 hq2 hq3 ⊢
      have t2 : Same G1 (upd G1 q2 (.lst [.str (Str.ofString "no")])) := sm_new hq2
      have a2 : (upd G1 q2 (.lst [.str (Str.ofString "no")])) q2 = some (.lst [.str (Str.ofString "no")]) := upd_same
      generalize upd G1 q2 (.lst [.str (Str.ofString "no")]) = G2 at t2 a2 hq3 ⊢
      have t3 : Same G2 (upd G2 q3 (.lst [.ref q2])) := sm_new hq3
      have a3 : (upd G2 q3 (.lst [.ref q2])) q3 = some (.lst [.ref q2]) := upd_same
      generalize upd G2 q3 (.lst [.ref q2]) = G3 at t3 a3 ⊢
      refine nil1 fun fr fx hfr hfx hfne => ?_
      have sf : Same G3 (upd (upd G3 fx (.own fr)) fr (.ins C fx [])) := fun b o e => by rw [upd_ne (ne_of_none e hfr), upd_ne (ne_of_none e hfx)]; exact e
      refine ⟨fr, fx, q1, q3, true, true, true, [113], [[110, 111]], [110, 111], fun _ _ => [110, 111], fun _ => q2, by rw [s_q, s_no]; rfl, upd_same, ?_, ?_, ?_, good_far, fun H14 hk hfar => ⟨rfl, ?_⟩⟩
      · rw [sf _ _ (t3 _ _ (t2 _ _ a1)), s_no]; rfl
      · rw [sf _ _ a3]; rfl
      · intro y hy
        rw [sf _ _ (t3 _ _ a2), s_no]; rfl
      have s14 : Same H13 H14 := fun b o e => by
        have e3 := t3 _ _ (t2 _ _ (t1 _ _ e))
        exact hk b o (ne_of_none e3 hfr) (sf _ _ e3)
      clear hk sf a1 a2 a3 t1 t2 t3 hq1 hq2 hq3 hfr hfx hfne
      have hma14 := s14 _ _ hma
      have hpt14 := s14 _ _ hpt
      have hgp14 := hgp.same s14
      have hrd14 := hrd.same s14
      have hg014 := hg0.same s14
      have e14 := e13.trans s14
      clear hma hpt hgp hrd hg0 e13 s14 hp0' G1 G2 G3
      refine gn1 ?_
      unfold tSeq tAsg
      dsimp only
      have nq : ¬ [113] = sg := fun h => h113 (by rw [← h]; exact List.mem_cons_self)
      obtain ⟨rdx, rm, rst, rnu, rle, rsa, rla, rco, rca, hra14, _⟩ := id hrd14
      refine sh_lst (Hb := H14) (n := 9) (mon_bad (K := K) (C := C) (C2 := C2) (sg := sg)) (sa_cons mon_bad (bad_ty (leaf_c _) (fun _ _ => .base .non) (kit_noseq (a := "NoneType") (kit_ty (a := "NoneType") (by decide +kernel)) (kit_ty (a := "NoneType") (by decide +kernel)))) (sa_cons mon_bad (bad_nilL) (sa_cons mon_bad (bad_nilT) (sa_cons mon_bad (bad_ty (leaf_c _) (fun _ _ => .base (.str _)) (kit_noseq (a := "str") (kit_ty (a := "str") (by decide +kernel)) (kit_ty (a := "str") (by decide +kernel)))) (sa_cons mon_bad (bad_ty (leaf_c _) (fun _ _ => .base (.int _)) (kit_noseq (a := "int") (kit_ty (a := "int") (by decide +kernel)) (kit_ty (a := "int") (by decide +kernel)))) (sa_cons mon_bad (bad_one (np_ty (leaf_c _) (fun _ _ => .base .non) (kit_ty (a := "NoneType") (by decide +kernel)))) (sa_cons mon_bad (bad_one (np_len (.cons (leaf_v rfl) (.cons (leaf_c _) .nil)) (by simp) (by simp))) (sa_cons mon_bad (bad_one (np_lst (.cons (leaf_v rfl) (.cons (leaf_c _) (.cons (leaf_c _) .nil))) (by simp))) (sa_cons mon_bad (bad_one (np_t3 (.cons (leaf_v rfl) (.cons (leaf_c _) (.cons (leaf_c _) .nil))) (fun H s => .rd (hrd14.same s)) (fun _ _ => .non) (.no (fun _ => .base (.int _)) (kit_ty (a := "int") (by decide +kernel))) (by simp [ok3]))) (sa_nil)))))))))) (by decide) _ _ (Same.refl _) fun v1 H15 s15 ⟨o1, vs1, ev1, ho1, hl1, hb1⟩ => ?_
      subst ev1
      refine gn1 ?_
      refine ⟨_, rfl, ?_⟩
      refine sh_lst (Hb := H14) (n := 5) (mon_bad (K := K) (C := C) (C2 := C2) (sg := sg)) (sa_cons mon_bad (bad_one (np_t3 (.cons (leaf_c _) (.cons (leaf_c _) (.cons (leaf_c _) .nil))) (fun _ _ => .no (fun _ => .base .non) kt.n0) (fun _ _ => .non) (.bl _) (by simp [ok3]))) (sa_cons mon_bad (bad_one (np_t3 (.cons (leaf_c _) (.cons (leaf_c _) (.cons (leaf_c _) .nil))) (fun _ _ => .no (fun _ => .base (.str _)) kt.s0) (fun _ _ => .non) (.bl _) (by simp [ok3]))) (sa_cons mon_bad (bad_one (np_t3 (.cons (leaf_v rfl) (.cons (leaf_c _) (.cons (leaf_c _) .nil))) (fun H s => .rd (hfar.same s)) (fun _ _ => .non) (.bl _) (by simp [ok3, nq]))) (sa_cons mon_bad (bad_one (np_t3 (.cons (leaf_v rfl) (.cons (leaf_c _) (.cons (leaf_c _) .nil))) (fun H s => .rd (hrd14.same s)) (fun _ _ => .no (fun _ => .base (.str _)) (by simp) kt.s1) (.bl _) (by simp [ok3]))) (sa_cons mon_bad (bad_ty (leaf_v rfl) (fun H s => .base (.ins (s _ _ hra14.ha) insC.cl insC.ha insC.hn insC.htk insC.hm)) (kitAny_cons (b := false) kt.rl (fun _ => kitAny_cons (b := false) kt.rt (fun _ => rfl) (fun h => nomatch h)) (fun h => nomatch h))) (sa_nil)))))) (by decide) _ _ s15 fun v2 H16 s16 ⟨o2, vs2, ev2, ho2, hl2, hb2⟩ => ?_
      subst ev2
      refine ⟨o1, o2, vs1, vs2, rfl, rfl, s16 _ _ ho1, ho2, Nat.le_trans (show vs1.length + vs2.length ≤ 1000 by omega) (by decide), fun o3 hn3 => ?_⟩
      have s17 : Same H16 (upd H16 o3 (.lst (vs1 ++ vs2))) := sm_new hn3
      have ho3 : (upd H16 o3 (.lst (vs1 ++ vs2))) o3 = some (.lst (vs1 ++ vs2)) := upd_same
      generalize upd H16 o3 (.lst (vs1 ++ vs2)) = H17 at s17 ho3 ⊢
      have hb12 : ∀ v ∈ vs1 ++ vs2, Bad K C C2 sg v H17 := fun v hv => by
        rcases List.mem_append.mp hv with h | h
        · exact mon_bad _ _ _ (s16.trans s17) (hb1 v h)
        · exact mon_bad _ _ _ s17 (hb2 v h)
      have s1417 : Same H14 H17 := (s15.trans s16).trans s17
      have hl12 : (vs1 ++ vs2).length = 14 := by rw [List.length_append, hl1, hl2]
      clear hb1 hb2 ho1 ho2 hl1 hl2 hn3 s15 s16 s17
      generalize vs1 ++ vs2 = vs at hb12 hl12 ho3 ⊢
      refine gn1 ?_
      refine ⟨_, rfl, ?_⟩
      refine sh_lst (Hb := H14) (n := 2) (mon_bad (K := K) (C := C) (C2 := C2) (sg := sg)) (sa_cons mon_bad (bad_one (np_change (leaf_v rfl) (fun H s => .rd (hrd14.same s)) h113)) (sa_cons mon_bad (bad_two (fun H Q s k => ⟨_, rfl, ma, CS, dx, _, _, rfl, s _ _ hma14, CS_.cl, CS_.nP, (show _ = some (V.ref pt) by rfl), pt, xs, 0, .ref p0, rfl, rfl, SqT.of (s _ _ hpt14), at_first hx0, k _ _ (Same.refl H) ((hg014.same s).part)⟩) (np_t3 (.cons (leaf_v rfl) (.cons (leaf_c _) (.cons (leaf_c _) .nil))) (fun H s => .rd (hrd14.same s)) (fun _ _ => .non) (.no (fun _ => .base .non) (kit_ty (a := "NoneType") (by decide +kernel))) (by simp [ok3]))) sa_nil)) (by decide) _ _ s1417 fun v3 H18 s18 ⟨o4, vs3, ev3, ho4, hl3, hb3⟩ => ?_
      subst ev3
      refine ⟨o3, o4, vs, vs3, rfl, rfl, s18 _ _ ho3, ho4, Nat.le_trans (show vs.length + vs3.length ≤ 1000 by omega) (by decide), fun o5 hn5 => ?_⟩
      have s19 : Same H18 (upd H18 o5 (.lst (vs ++ vs3))) := sm_new hn5
      have ho5 : (upd H18 o5 (.lst (vs ++ vs3))) o5 = some (.lst (vs ++ vs3)) := upd_same
      generalize upd H18 o5 (.lst (vs ++ vs3)) = H19 at s19 ho5 ⊢
      have hb16 : ∀ v ∈ vs ++ vs3, Bad K C C2 sg v H18 := fun v hv => by
        rcases List.mem_append.mp hv with h | h
        · exact mon_bad _ _ _ s18 (hb12 v h)
        · exact hb3 v h
      have hl16 : (vs ++ vs3).length = 16 := by rw [List.length_append, hl12, hl3]
      have s1418 := s1417.trans s18
      clear hb12 hb3 hl12 hl3 ho3 ho4 s1417 s18
      generalize vs ++ vs3 = us at hb16 hl16 ho5 ⊢
      refine gn1 ?_
      refine ⟨_, rfl, .inl ⟨rfl, _, SqL.of ho5⟩, ?_⟩
      refine ⟨_, rfl, by show 4 ≤ sizeLine; decide, fun t4 hn4 => ?_⟩
      have s20 : Same H19 (upd H19 t4 (.tup [.ref r, .non, .bl true, .int 0])) := sm_new hn4
      have ht4 : (upd H19 t4 (.tup [.ref r, .non, .bl true, .int 0])) t4 = some (.tup [.ref r, .non, .bl true, .int 0]) := upd_same
      generalize upd H19 t4 (.tup [.ref r, .non, .bl true, .int 0]) = H20 at s20 ht4 ⊢
      refine ⟨by show 1 ≤ sizeLine; decide, fun l4 hn6 => ?_⟩
      have s21 : Same H20 (upd H20 l4 (.lst [.ref t4])) := sm_new hn6
      have hl4 : (upd H20 l4 (.lst [.ref t4])) l4 = some (.lst [.ref t4]) := upd_same
      have n5 : o5 ≠ l4 := ne_of_none (s20 _ _ ho5) hn6
      generalize upd H20 l4 (.lst [.ref t4]) = H21 at s21 hl4 ⊢
      have ho521 := s21 _ _ (s20 _ _ ho5)
      refine ⟨o5, us, _, rfl, rfl, ho521, by rw [hl16]; decide, ?_⟩
      have s22 : Same H18 (upd H21 o5 (.lst (us ++ [.ref l4]))) := sm_put_own ((s19.trans s20).trans s21) hn5
      have ho522 : (upd H21 o5 (.lst (us ++ [.ref l4]))) o5 = some (.lst (us ++ [.ref l4])) := upd_same
      have hl422 : (upd H21 o5 (.lst (us ++ [.ref l4]))) l4 = some (.lst [.ref t4]) := by rw [upd_ne n5.symm]; exact hl4
      have ht422 : (upd H21 o5 (.lst (us ++ [.ref l4]))) t4 = some (.tup [.ref r, .non, .bl true, .int 0]) := Toy.putL ho521 (s21 _ _ ht4) (by intro ys h; cases h)
      generalize upd H21 o5 (.lst (us ++ [.ref l4])) = H22 at s22 ho522 hl422 ht422 ⊢
      have hb17 : ∀ v ∈ us ++ [.ref l4], Bad K C C2 sg v H22 := fun v hv => by
        rcases List.mem_append.mp hv with h | h
        · exact mon_bad _ _ _ s22 (hb16 v h)
        · rw [List.mem_singleton.mp h]
          refine .inr ⟨l4, true, [.ref t4], [false], rfl, SqL.of hl422, rfl, by simp, fun i y c e1 e2 => ?_, .inr List.mem_cons_self⟩
          cases i with
          | zero => cases e1; cases e2; exact .len (SqT.of ht422) (by simp)
          | succ i => simp at e1
      have hl17 : (us ++ [V.ref l4]).length = 17 := by rw [List.length_append, hl16]; rfl
      have s1422 := s1418.trans s22
      clear hb16 hl16 ho5 ho521 ht4 hl4 hn4 hn5 hn6 s19 s20 s21 s22 s1418 n5
      generalize us ++ [V.ref l4] = us at hb17 hl17 ho522 ⊢
      refine word_run (C := C) (C2 := C2) s_parts (by decide) ho522 (by omega) (fun z hz G g R k => ⟨_, rfl, _, rfl, .str (S sg), z, rfl, .inr (.inl ⟨sg, rfl, hsg, mon_bad _ _ _ g (hb17 z hz), fun G2 g2 => by rw [s_parts']; exact k G2 g2⟩)⟩) fun H23 s23 => ?_
      refine ⟨_, rfl, iteN rfl ?_⟩
      refine nxt ?_
      have s1423 := s1422.trans s23
      clear hb17 hl17 ho522 s1422 s23 ht422 hl422
      dsimp only
      refine sh_lst (Hb := H23) (n := 10) (mon_ns (K := K)) (sa_cons mon_ns (ns_ty (leaf_c _) (fun _ => .base .non) (kit_ty (a := "NoneType") (by decide +kernel))) (sa_cons mon_ns (ns_txt (l := []) (by rw [← s_nil]; exact leaf_c _) (by decide) (by decide)) (sa_cons mon_ns (ns_txt (l := [98, 97]) (by rw [← s_ba]; exact leaf_c _) (by decide) (by decide)) (sa_cons mon_ns (ns_txt (l := [97, 97]) (by rw [← s_aa]; exact leaf_c _) (by decide) (by decide)) (sa_cons mon_ns (ns_txt (l := [65]) (by rw [← s_A]; exact leaf_c _) (by decide) (by decide)) (sa_cons mon_ns (ns_txt (l := [97, 49]) (by rw [← s_a1]; exact leaf_c _) (by decide) (by decide)) (sa_cons mon_ns (ns_ty (leaf_c _) (fun _ => .base (.int _)) (kit_ty (a := "int") (by decide +kernel))) (sa_cons mon_ns (ns_tup (.cons (leaf_c _) .nil) (by simp)) (sa_cons mon_ns (ns_lst (.cons (leaf_c _) .nil) (by simp)) (sa_cons mon_ns (ns_txt (l := [97, 98, 99, 100]) (by rw [← s_abcd]; exact leaf_c _) (by decide) (by decide)) (sa_nil))))))))))) (by decide) _ _ (Same.refl H23) fun v9 H24 s24 ⟨o9, vs9, ev9, ho9, hl9, hbs⟩ => ?_
      subst ev9
      have s1424 := s1423.trans s24
      refine gn1 ?_
      refine word_run (C := C) (C2 := C2) s_signs (by decide) ho9 (by omega) (fun z hz G g R k => ?_) fun H25 s25 => ?_
      · obtain ⟨oz, z1, z2, z3⟩ := mon_ns _ _ _ g (hbs z hz)
        exact ⟨_, rfl, z, .non, rfl, .inl ⟨oz, z1, z2, z3, fun G2 g2 => by rw [s_signs']; exact k G2 g2⟩⟩
      refine ⟨_, rfl, iteN rfl ?_⟩
      refine nxt ?_
      have s1425 := s1424.trans s25
      have hma25 := s1425 _ _ hma14
      have hpt25 := s1425 _ _ hpt14
      have hgp25 := hgp14.same s1425
      have e25 := e14.trans s1425
      clear hbs ho9 hl9 s25 s24 s1423 s1424 hma14 hpt14 hgp14 e14 s1425 hrd14 hg014 hfar hra14
      refine ⟨_, rfl, _, rfl, ma, CS, dx, _, _, rfl, hma25, CS_.cl, CS_.nP, (show _ = some (V.ref pt) by rfl), .str (S sg), .ref pt, rfl, .inr (.inr ⟨sg, pt, false, xs, ns2, rfl, hsg, rfl, hpt25, hgp25, by omega, by omega, by omega, fun H26 s26 => ?_⟩)⟩
      refine ⟨rfl, _, rfl, iteN rfl ?_⟩
      refine ⟨_, rfl, _, rfl, ma, CS, dx, _, _, rfl, s26 _ _ hma25, CS_.cl, CS_.nP, (show _ = some (V.ref pt) by rfl), pt, xs, rfl, .inr (SqT.of (s26 _ _ hpt25)), fun l9 hl9 => ?_⟩
      have s27 : Same H26 (upd H26 l9 (.lst xs)) := sm_new hl9
      have hl27 : (upd H26 l9 (.lst xs)) l9 = some (.lst xs) := upd_same
      generalize upd H26 l9 (.lst xs) = H27 at s27 hl27 ⊢
      refine nil1 ⟨.str (S sg), .ref l9, rfl, .inr (.inr ⟨sg, l9, true, xs, ns2, rfl, hsg, rfl, hl27, hgp25.same (s26.trans s27), by omega, by omega, by omega, fun H28 s28 => ?_⟩)⟩
      refine ⟨rfl, _, rfl, iteN rfl ?_⟩
      refine nxt ?_
      exact ⟨⟨_, _, _, _, _, _, _, _, _, _, _, _, _, _, _, rfl⟩, e25.trans (s26.trans (s27.trans s28))⟩
    · rintro σ H2 ⟨⟨s1, s2, s3, s4, s5, s6, s7, s8, s9, s10, s11, s12, s13, s14, s15, rfl⟩, e⟩
      exact kk H2
end
end Toy
set_option maxHeartbeats 8000000
namespace Toy
open PySem L2 C8 SX LX
def swapV (us ws : List Value) : List Value := match ws with
  | [a, b] => us ++ [b, a]
  | _ => us
theorem swap_rel {vs : List V} {us : List Value} {zs : List V} {ws : List Value} (r1 : Vals vs us) (r2 : Vals zs ws) : Vals (swap2 vs zs) (swapV us ws) := by
  cases r2 with
  | nil => exact r1
  | cons a r2 =>
    cases r2 with
    | nil => exact r1
    | cons b r2 =>
      cases r2 with
      | nil => exact r1.append (.cons b (.cons a .nil))
      | cons c r2 => exact r1
theorem no_names {K : PySem.W.Frag} {N : Addr} {od : Option Addr} {n : Nat} {sl : Array (Option Value)} {u0 u1 u2 u3 u4 u5 u6 u7 u8 u9 : Tok}
    (h : K.lookup N = some ⟨.type "tuple", od, .seq #[.str (Str.ofString "back") u0, .str (Str.ofString "is") u1, .str (Str.ofString "not") u2, .str (Str.ofString "and") u3, .str (Str.ofString "or") u4, .str (Str.ofString "if") u5, .str (Str.ofString "then") u6, .str (Str.ofString "for") u7, .str (Str.ofString "all") u8, .str (Str.ofString "some") u9] n, sl⟩) (H : Hp) : SqT K H N (txs no10) := by
  refine .inr ⟨_, _, _, h, rfl, rfl, (by show 10 ≤ sizeLine; decide), ?_⟩
  have e0 : (Str.ofString "back") = S [98, 97, 99, 107] := by decide +kernel
  have e1 : (Str.ofString "is") = S [105, 115] := by decide +kernel
  have e2 : (Str.ofString "not") = S [110, 111, 116] := by decide +kernel
  have e3 : (Str.ofString "and") = S [97, 110, 100] := by decide +kernel
  have e4 : (Str.ofString "or") = S [111, 114] := by decide +kernel
  have e5 : (Str.ofString "if") = S [105, 102] := by decide +kernel
  have e6 : (Str.ofString "then") = S [116, 104, 101, 110] := by decide +kernel
  have e7 : (Str.ofString "for") = S [102, 111, 114] := by decide +kernel
  have e8 : (Str.ofString "all") = S [97, 108, 108] := by decide +kernel
  have e9 : (Str.ofString "some") = S [115, 111, 109, 101] := by decide +kernel
  rw [e0, e1, e2, e3, e4, e5, e6, e7, e8, e9]
  exact .cons ⟨_, rfl⟩ (.cons ⟨_, rfl⟩ (.cons ⟨_, rfl⟩ (.cons ⟨_, rfl⟩ (.cons ⟨_, rfl⟩ (.cons ⟨_, rfl⟩ (.cons ⟨_, rfl⟩ (.cons ⟨_, rfl⟩ (.cons ⟨_, rfl⟩ (.cons ⟨_, rfl⟩ .nil)))))))))
theorem all_mk {l : PySem.W.OpenLaw} {w : World} {K : PySem.W.Frag} {h : Heap} {mg : Str → Option Value} {fa : Addr} {f_flow f_less f_anyof f_shaken f_letters f_draft f_lreader f_line f_exch f_part f_lsight f_word f_isseq f_istup f_isrow f_isletters f_issigns f_isname f_isrows f_ismarks f_istargets f_issteps f_m_num f_table f_cols f_init f_m_nled f_cinit f_of f_pinit f_stepof f_ledp f_rop f_sinit f_slen f_seq f_ispart f_xis f_law C_Reader C_Change C_Placing C_Sight C_InvalidSight C_RowError : Addr} (X : K.In h) (G : h.Ns mainGlobals mg) (hfa : mg "law" = some (.ref fa))
    {od_flow an_flow : Option Addr} {sl_flow : Array (Option Value)} {oc_flow kV_flow dc_flow pm_flow cd_flow ct_flow : Value}
    {od_less an_less : Option Addr} {sl_less : Array (Option Value)} {oc_less kV_less dc_less pm_less cd_less ct_less : Value}
    {od_anyof an_anyof : Option Addr} {sl_anyof : Array (Option Value)} {oc_anyof kV_anyof dc_anyof pm_anyof cd_anyof ct_anyof : Value}
    {od_shaken an_shaken : Option Addr} {sl_shaken : Array (Option Value)} {oc_shaken kV_shaken dc_shaken pm_shaken cd_shaken ct_shaken : Value}
    {od_letters an_letters : Option Addr} {sl_letters : Array (Option Value)} {oc_letters kV_letters dc_letters pm_letters cd_letters ct_letters : Value}
    {od_draft an_draft : Option Addr} {sl_draft : Array (Option Value)} {oc_draft kV_draft dc_draft pm_draft cd_draft ct_draft : Value}
    {od_lreader an_lreader : Option Addr} {sl_lreader : Array (Option Value)} {oc_lreader kV_lreader dc_lreader pm_lreader cd_lreader ct_lreader : Value}
    {od_line an_line : Option Addr} {sl_line : Array (Option Value)} {oc_line kV_line dc_line pm_line cd_line ct_line : Value}
    {od_exch an_exch : Option Addr} {sl_exch : Array (Option Value)} {oc_exch kV_exch dc_exch pm_exch cd_exch ct_exch : Value}
    {od_part an_part : Option Addr} {sl_part : Array (Option Value)} {oc_part kV_part dc_part pm_part cd_part ct_part : Value}
    {od_lsight an_lsight : Option Addr} {sl_lsight : Array (Option Value)} {oc_lsight kV_lsight dc_lsight pm_lsight cd_lsight ct_lsight : Value}
    {od_word an_word : Option Addr} {sl_word : Array (Option Value)} {oc_word kV_word dc_word pm_word cd_word ct_word : Value}
    {od_isseq an_isseq : Option Addr} {sl_isseq : Array (Option Value)} {oc_isseq kV_isseq dc_isseq pm_isseq cd_isseq ct_isseq : Value}
    {od_istup an_istup : Option Addr} {sl_istup : Array (Option Value)} {oc_istup kV_istup dc_istup pm_istup cd_istup ct_istup : Value}
    {od_isrow an_isrow : Option Addr} {sl_isrow : Array (Option Value)} {oc_isrow kV_isrow dc_isrow pm_isrow cd_isrow ct_isrow : Value}
    {od_isletters an_isletters : Option Addr} {sl_isletters : Array (Option Value)} {oc_isletters kV_isletters dc_isletters pm_isletters cd_isletters ct_isletters : Value}
    {od_issigns an_issigns : Option Addr} {sl_issigns : Array (Option Value)} {oc_issigns kV_issigns dc_issigns pm_issigns cd_issigns ct_issigns : Value}
    {od_isname an_isname : Option Addr} {sl_isname : Array (Option Value)} {oc_isname kV_isname dc_isname pm_isname cd_isname ct_isname : Value}
    {od_isrows an_isrows : Option Addr} {sl_isrows : Array (Option Value)} {oc_isrows kV_isrows dc_isrows pm_isrows cd_isrows ct_isrows : Value}
    {od_ismarks an_ismarks : Option Addr} {sl_ismarks : Array (Option Value)} {oc_ismarks kV_ismarks dc_ismarks pm_ismarks cd_ismarks ct_ismarks : Value}
    {od_istargets an_istargets : Option Addr} {sl_istargets : Array (Option Value)} {oc_istargets kV_istargets dc_istargets pm_istargets cd_istargets ct_istargets : Value}
    {od_issteps an_issteps : Option Addr} {sl_issteps : Array (Option Value)} {oc_issteps kV_issteps dc_issteps pm_issteps cd_issteps ct_issteps : Value}
    {od_m_num an_m_num : Option Addr} {sl_m_num : Array (Option Value)} {oc_m_num kV_m_num dc_m_num pm_m_num cd_m_num ct_m_num : Value}
    {od_table an_table : Option Addr} {sl_table : Array (Option Value)} {oc_table kV_table dc_table pm_table cd_table ct_table : Value}
    {od_cols an_cols : Option Addr} {sl_cols : Array (Option Value)} {oc_cols kV_cols dc_cols pm_cols cd_cols ct_cols : Value}
    {od_init an_init : Option Addr} {sl_init : Array (Option Value)} {oc_init kV_init dc_init pm_init cd_init ct_init : Value}
    {od_m_nled an_m_nled : Option Addr} {sl_m_nled : Array (Option Value)} {oc_m_nled kV_m_nled dc_m_nled pm_m_nled cd_m_nled ct_m_nled : Value}
    {od_cinit an_cinit : Option Addr} {sl_cinit : Array (Option Value)} {oc_cinit kV_cinit dc_cinit pm_cinit cd_cinit ct_cinit : Value}
    {od_of an_of : Option Addr} {sl_of : Array (Option Value)} {oc_of kV_of dc_of pm_of cd_of ct_of : Value}
    {od_pinit an_pinit : Option Addr} {sl_pinit : Array (Option Value)} {oc_pinit kV_pinit dc_pinit pm_pinit cd_pinit ct_pinit : Value}
    {od_stepof an_stepof : Option Addr} {sl_stepof : Array (Option Value)} {oc_stepof kV_stepof dc_stepof pm_stepof cd_stepof ct_stepof : Value}
    {od_ledp an_ledp : Option Addr} {sl_ledp : Array (Option Value)} {oc_ledp kV_ledp dc_ledp pm_ledp cd_ledp ct_ledp : Value}
    {od_rop an_rop : Option Addr} {sl_rop : Array (Option Value)} {oc_rop kV_rop dc_rop pm_rop cd_rop ct_rop : Value}
    {od_sinit an_sinit : Option Addr} {sl_sinit : Array (Option Value)} {oc_sinit kV_sinit dc_sinit pm_sinit cd_sinit ct_sinit : Value}
    {od_slen an_slen : Option Addr} {sl_slen : Array (Option Value)} {oc_slen kV_slen dc_slen pm_slen cd_slen ct_slen : Value}
    {od_seq an_seq : Option Addr} {sl_seq : Array (Option Value)} {oc_seq kV_seq dc_seq pm_seq cd_seq ct_seq : Value}
    {od_ispart an_ispart : Option Addr} {sl_ispart : Array (Option Value)} {oc_ispart kV_ispart dc_ispart pm_ispart cd_ispart ct_ispart : Value}
    {od_xis an_xis : Option Addr} {sl_xis : Array (Option Value)} {oc_xis kV_xis dc_xis pm_xis cd_xis ct_xis : Value}
    {od_law an_law : Option Addr} {sl_law : Array (Option Value)} {oc_law kV_law dc_law pm_law cd_law ct_law : Value}
    {N_nn : Addr} {od_nn : Option Addr} {n_nn : Nat} {sl_nn : Array (Option Value)} {u0_nn u1_nn u2_nn u3_nn u4_nn u5_nn u6_nn u7_nn u8_nn u9_nn : Tok}
    (tg_nn : PySem.W.nsIn K mainGlobals "_NO_NAMES" = some (some (.ref N_nn)))
    (tl_nn : K.lookup N_nn = some ⟨.type "tuple", od_nn, .seq #[.str (Str.ofString "back") u0_nn, .str (Str.ofString "is") u1_nn, .str (Str.ofString "not") u2_nn, .str (Str.ofString "and") u3_nn, .str (Str.ofString "or") u4_nn, .str (Str.ofString "if") u5_nn, .str (Str.ofString "then") u6_nn, .str (Str.ofString "for") u7_nn, .str (Str.ofString "all") u8_nn, .str (Str.ofString "some") u9_nn] n_nn, sl_nn⟩)
    {tk_az : Tok}
    (q_az : PySem.W.nsIn K mainGlobals "_LETTERS" = some (some (.str (S az) tk_az)))
    (g_Reader : PySem.W.nsIn K mainGlobals "Reader" = some (some (.ref C_Reader)))
    (pg_Reader : PySem.W.plainGet K C_Reader Str.empty = true)
    (hd_Reader : PySem.W.hasDictIn K C_Reader = true)
    (po_Reader : PySem.W.plainOver K C_Reader = true)
    (sa_Reader : PySem.W.findIn K (.ref C_Reader) "__setattr__" = some (some (.builtin "object.__setattr__")))
    (kc_Reader : PySem.W.keepIn K (.ref C_Reader) = true)
    (n_Reader_signs : PySem.W.findIn K (.ref C_Reader) "signs" = some none)
    (n_Reader_marks : PySem.W.findIn K (.ref C_Reader) "marks" = some none)
    (n_Reader_first : PySem.W.findIn K (.ref C_Reader) "first" = some none)
    (n_Reader_steps : PySem.W.findIn K (.ref C_Reader) "steps" = some none)
    (n_Reader__numbers : PySem.W.findIn K (.ref C_Reader) "_numbers" = some none)
    (n_Reader__leads : PySem.W.findIn K (.ref C_Reader) "_leads" = some none)
    (n_Reader__columns : PySem.W.findIn K (.ref C_Reader) "_columns" = some none)
    (mk_Reader : PySem.W.makesIn K C_Reader = true)
    (ha_Reader : PySem.W.findIn K (.ref C_Reader) "__class__" = some (some (.builtin "object.__class__")))
    (hn_Reader : PySem.W.specialIn K (.builtin "object.__class__") "__get__" = some (some (.builtin "getset_descriptor.__get__")))
    (tk_Reader : PySem.W.takesIn K (.builtin "object.__class__") = some true)
    (hm_Reader : PySem.W.mroIn K C_Reader (.type "object") = some true)
    (g_Change : PySem.W.nsIn K mainGlobals "Change" = some (some (.ref C_Change)))
    (pg_Change : PySem.W.plainGet K C_Change Str.empty = true)
    (hd_Change : PySem.W.hasDictIn K C_Change = true)
    (po_Change : PySem.W.plainOver K C_Change = true)
    (sa_Change : PySem.W.findIn K (.ref C_Change) "__setattr__" = some (some (.builtin "object.__setattr__")))
    (kc_Change : PySem.W.keepIn K (.ref C_Change) = true)
    (n_Change_signs : PySem.W.findIn K (.ref C_Change) "signs" = some none)
    (n_Change_rows : PySem.W.findIn K (.ref C_Change) "rows" = some none)
    (mk_Change : PySem.W.makesIn K C_Change = true)
    (ha_Change : PySem.W.findIn K (.ref C_Change) "__class__" = some (some (.builtin "object.__class__")))
    (hn_Change : PySem.W.specialIn K (.builtin "object.__class__") "__get__" = some (some (.builtin "getset_descriptor.__get__")))
    (tk_Change : PySem.W.takesIn K (.builtin "object.__class__") = some true)
    (hm_Change : PySem.W.mroIn K C_Change (.type "object") = some true)
    (g_Placing : PySem.W.nsIn K mainGlobals "Placing" = some (some (.ref C_Placing)))
    (pg_Placing : PySem.W.plainGet K C_Placing Str.empty = true)
    (hd_Placing : PySem.W.hasDictIn K C_Placing = true)
    (po_Placing : PySem.W.plainOver K C_Placing = true)
    (sa_Placing : PySem.W.findIn K (.ref C_Placing) "__setattr__" = some (some (.builtin "object.__setattr__")))
    (kc_Placing : PySem.W.keepIn K (.ref C_Placing) = true)
    (n_Placing_signs : PySem.W.findIn K (.ref C_Placing) "signs" = some none)
    (n_Placing_parts : PySem.W.findIn K (.ref C_Placing) "parts" = some none)
    (n_Placing_marks : PySem.W.findIn K (.ref C_Placing) "marks" = some none)
    (n_Placing_spans : PySem.W.findIn K (.ref C_Placing) "spans" = some none)
    (n_Placing_at_first : PySem.W.findIn K (.ref C_Placing) "at_first" = some none)
    (n_Placing_steps : PySem.W.findIn K (.ref C_Placing) "steps" = some none)
    (mk_Placing : PySem.W.makesIn K C_Placing = true)
    (g_Sight : PySem.W.nsIn K mainGlobals "Sight" = some (some (.ref C_Sight)))
    (pg_Sight : PySem.W.plainGet K C_Sight Str.empty = true)
    (hd_Sight : PySem.W.hasDictIn K C_Sight = true)
    (po_Sight : PySem.W.plainOver K C_Sight = true)
    (sa_Sight : PySem.W.findIn K (.ref C_Sight) "__setattr__" = some (some (.builtin "object.__setattr__")))
    (kc_Sight : PySem.W.keepIn K (.ref C_Sight) = true)
    (n_Sight_signs : PySem.W.findIn K (.ref C_Sight) "signs" = some none)
    (n_Sight_parts : PySem.W.findIn K (.ref C_Sight) "parts" = some none)
    (n_Sight_placing : PySem.W.findIn K (.ref C_Sight) "placing" = some none)
    (mk_Sight : PySem.W.makesIn K C_Sight = true)
    (ha_Sight : PySem.W.findIn K (.ref C_Sight) "__class__" = some (some (.builtin "object.__class__")))
    (hn_Sight : PySem.W.specialIn K (.builtin "object.__class__") "__get__" = some (some (.builtin "getset_descriptor.__get__")))
    (tk_Sight : PySem.W.takesIn K (.builtin "object.__class__") = some true)
    (hm_Sight : PySem.W.mroIn K C_Sight (.type "object") = some true)
    (ne_Sight : PySem.W.findIn K (.ref C_Sight) "__ne__" = some (some (.builtin "object.__ne__")))
    (sf_Sight : PySem.W.selfFirst K C_Sight = true)
    (xg_InvalidSight : PySem.W.nsIn K mainGlobals "InvalidSight" = some (some (.ref C_InvalidSight)))
    (xg_RowError : PySem.W.nsIn K mainGlobals "RowError" = some (some (.ref C_RowError)))
    (xc_InvalidSight : XC K C_InvalidSight)
    (xf_InvalidSight : PySem.W.findIn K (.ref C_InvalidSight) "word" = some none)
    (xs_CC : PySem.W.subIn K (.ref C_InvalidSight) (.ref C_InvalidSight) = some true)
    (xk_CR : PySem.W.kitOne K (.ref C_InvalidSight) (.ref C_RowError) = some true)
    (kn0 : PySem.W.kitOne K (.type "NoneType") (.ref C_Reader) = some false)
    (ks0 : PySem.W.kitOne K (.type "str") (.ref C_Reader) = some false)
    (ks1 : PySem.W.kitOne K (.type "str") (.ref C_Change) = some false)
    (ktS : PySem.W.kitOne K (.type "tuple") (.ref C_Sight) = some false)
    (krl : PySem.W.kitOne K (.ref C_Reader) (.type "list") = some false)
    (krt : PySem.W.kitOne K (.ref C_Reader) (.type "tuple") = some false)
    (knf : PySem.W.notFirst K C_Sight (.type "tuple") = true)
    (a_flow : PySem.W.nsIn K mainGlobals "_law_flow" = some (some (.ref f_flow)))
    (l_flow : K.lookup f_flow = some ⟨oc_flow, od_flow, .func (PySem.W.fnOf "_law_flow" "_law_flow" (C8.fnArgs s_flow) (C8.fnBody s_flow) (C8.fnScope s_flow) .none kV_flow dc_flow pm_flow an_flow cd_flow ct_flow), sl_flow⟩)
    (c_flow : PySem.W.codeIn K cd_flow "_law_flow" = true)
    (k_flow : PySem.W.keepIn K (.ref f_flow) = true)
    (a_less : PySem.W.nsIn K mainGlobals "_law_less" = some (some (.ref f_less)))
    (l_less : K.lookup f_less = some ⟨oc_less, od_less, .func (PySem.W.fnOf "_law_less" "_law_less" (C8.fnArgs s_less) (C8.fnBody s_less) (C8.fnScope s_less) .none kV_less dc_less pm_less an_less cd_less ct_less), sl_less⟩)
    (c_less : PySem.W.codeIn K cd_less "_law_less" = true)
    (k_less : PySem.W.keepIn K (.ref f_less) = true)
    (a_anyof : PySem.W.nsIn K mainGlobals "_law_any_of" = some (some (.ref f_anyof)))
    (l_anyof : K.lookup f_anyof = some ⟨oc_anyof, od_anyof, .func (PySem.W.fnOf "_law_any_of" "_law_any_of" (C8.fnArgs s_anyof) (C8.fnBody s_anyof) (C8.fnScope s_anyof) .none kV_anyof dc_anyof pm_anyof an_anyof cd_anyof ct_anyof), sl_anyof⟩)
    (c_anyof : PySem.W.codeIn K cd_anyof "_law_any_of" = true)
    (k_anyof : PySem.W.keepIn K (.ref f_anyof) = true)
    (a_shaken : PySem.W.nsIn K mainGlobals "_law_shaken" = some (some (.ref f_shaken)))
    (l_shaken : K.lookup f_shaken = some ⟨oc_shaken, od_shaken, .func (PySem.W.fnOf "_law_shaken" "_law_shaken" (C8.fnArgs s_shaken) (C8.fnBody s_shaken) (C8.fnScope s_shaken) .none kV_shaken dc_shaken pm_shaken an_shaken cd_shaken ct_shaken), sl_shaken⟩)
    (c_shaken : PySem.W.codeIn K cd_shaken "_law_shaken" = true)
    (k_shaken : PySem.W.keepIn K (.ref f_shaken) = true)
    (a_letters : PySem.W.nsIn K mainGlobals "_law_letters" = some (some (.ref f_letters)))
    (l_letters : K.lookup f_letters = some ⟨oc_letters, od_letters, .func (PySem.W.fnOf "_law_letters" "_law_letters" (C8.fnArgs s_letters) (C8.fnBody s_letters) (C8.fnScope s_letters) .none kV_letters dc_letters pm_letters an_letters cd_letters ct_letters), sl_letters⟩)
    (c_letters : PySem.W.codeIn K cd_letters "_law_letters" = true)
    (k_letters : PySem.W.keepIn K (.ref f_letters) = true)
    (a_draft : PySem.W.nsIn K mainGlobals "_law_draft" = some (some (.ref f_draft)))
    (l_draft : K.lookup f_draft = some ⟨oc_draft, od_draft, .func (PySem.W.fnOf "_law_draft" "_law_draft" (C8.fnArgs s_draft) (C8.fnBody s_draft) (C8.fnScope s_draft) .none kV_draft dc_draft pm_draft an_draft cd_draft ct_draft), sl_draft⟩)
    (c_draft : PySem.W.codeIn K cd_draft "_law_draft" = true)
    (k_draft : PySem.W.keepIn K (.ref f_draft) = true)
    (a_lreader : PySem.W.nsIn K mainGlobals "_law_reader" = some (some (.ref f_lreader)))
    (l_lreader : K.lookup f_lreader = some ⟨oc_lreader, od_lreader, .func (PySem.W.fnOf "_law_reader" "_law_reader" (C8.fnArgs s_lreader) (C8.fnBody s_lreader) (C8.fnScope s_lreader) .none kV_lreader dc_lreader pm_lreader an_lreader cd_lreader ct_lreader), sl_lreader⟩)
    (c_lreader : PySem.W.codeIn K cd_lreader "_law_reader" = true)
    (k_lreader : PySem.W.keepIn K (.ref f_lreader) = true)
    (a_line : PySem.W.nsIn K mainGlobals "_law_line" = some (some (.ref f_line)))
    (l_line : K.lookup f_line = some ⟨oc_line, od_line, .func (PySem.W.fnOf "_law_line" "_law_line" (C8.fnArgs s_line) (C8.fnBody s_line) (C8.fnScope s_line) .none kV_line dc_line pm_line an_line cd_line ct_line), sl_line⟩)
    (c_line : PySem.W.codeIn K cd_line "_law_line" = true)
    (k_line : PySem.W.keepIn K (.ref f_line) = true)
    (a_exch : PySem.W.nsIn K mainGlobals "_law_exchange" = some (some (.ref f_exch)))
    (l_exch : K.lookup f_exch = some ⟨oc_exch, od_exch, .func (PySem.W.fnOf "_law_exchange" "_law_exchange" (C8.fnArgs s_exch) (C8.fnBody s_exch) (C8.fnScope s_exch) .none kV_exch dc_exch pm_exch an_exch cd_exch ct_exch), sl_exch⟩)
    (c_exch : PySem.W.codeIn K cd_exch "_law_exchange" = true)
    (k_exch : PySem.W.keepIn K (.ref f_exch) = true)
    (a_part : PySem.W.nsIn K mainGlobals "_law_part" = some (some (.ref f_part)))
    (l_part : K.lookup f_part = some ⟨oc_part, od_part, .func (PySem.W.fnOf "_law_part" "_law_part" (C8.fnArgs s_part) (C8.fnBody s_part) (C8.fnScope s_part) .none kV_part dc_part pm_part an_part cd_part ct_part), sl_part⟩)
    (c_part : PySem.W.codeIn K cd_part "_law_part" = true)
    (k_part : PySem.W.keepIn K (.ref f_part) = true)
    (a_lsight : PySem.W.nsIn K mainGlobals "_law_sight" = some (some (.ref f_lsight)))
    (l_lsight : K.lookup f_lsight = some ⟨oc_lsight, od_lsight, .func (PySem.W.fnOf "_law_sight" "_law_sight" (C8.fnArgs s_lsight) (C8.fnBody s_lsight) (C8.fnScope s_lsight) .none kV_lsight dc_lsight pm_lsight an_lsight cd_lsight ct_lsight), sl_lsight⟩)
    (c_lsight : PySem.W.codeIn K cd_lsight "_law_sight" = true)
    (k_lsight : PySem.W.keepIn K (.ref f_lsight) = true)
    (a_word : PySem.W.nsIn K mainGlobals "_law_word" = some (some (.ref f_word)))
    (l_word : K.lookup f_word = some ⟨oc_word, od_word, .func (PySem.W.fnOf "_law_word" "_law_word" (C8.fnArgs s_word) (C8.fnBody s_word) (C8.fnScope s_word) .none kV_word dc_word pm_word an_word cd_word ct_word), sl_word⟩)
    (c_word : PySem.W.codeIn K cd_word "_law_word" = true)
    (k_word : PySem.W.keepIn K (.ref f_word) = true)
    (a_isseq : PySem.W.nsIn K mainGlobals "is_sequence" = some (some (.ref f_isseq)))
    (l_isseq : K.lookup f_isseq = some ⟨oc_isseq, od_isseq, .func (PySem.W.fnOf "is_sequence" "is_sequence" (C8.fnArgs s_isseq) (C8.fnBody s_isseq) (C8.fnScope s_isseq) .none kV_isseq dc_isseq pm_isseq an_isseq cd_isseq ct_isseq), sl_isseq⟩)
    (c_isseq : PySem.W.codeIn K cd_isseq "is_sequence" = true)
    (k_isseq : PySem.W.keepIn K (.ref f_isseq) = true)
    (a_istup : PySem.W.nsIn K mainGlobals "is_tuple_of" = some (some (.ref f_istup)))
    (l_istup : K.lookup f_istup = some ⟨oc_istup, od_istup, .func (PySem.W.fnOf "is_tuple_of" "is_tuple_of" (C8.fnArgs s_istup) (C8.fnBody s_istup) (C8.fnScope s_istup) .none kV_istup dc_istup pm_istup an_istup cd_istup ct_istup), sl_istup⟩)
    (c_istup : PySem.W.codeIn K cd_istup "is_tuple_of" = true)
    (k_istup : PySem.W.keepIn K (.ref f_istup) = true)
    (a_isrow : PySem.W.nsIn K mainGlobals "is_row" = some (some (.ref f_isrow)))
    (l_isrow : K.lookup f_isrow = some ⟨oc_isrow, od_isrow, .func (PySem.W.fnOf "is_row" "is_row" (C8.fnArgs s_isrow) (C8.fnBody s_isrow) (C8.fnScope s_isrow) .none kV_isrow dc_isrow pm_isrow an_isrow cd_isrow ct_isrow), sl_isrow⟩)
    (c_isrow : PySem.W.codeIn K cd_isrow "is_row" = true)
    (k_isrow : PySem.W.keepIn K (.ref f_isrow) = true)
    (a_isletters : PySem.W.nsIn K mainGlobals "is_letters" = some (some (.ref f_isletters)))
    (l_isletters : K.lookup f_isletters = some ⟨oc_isletters, od_isletters, .func (PySem.W.fnOf "is_letters" "is_letters" (C8.fnArgs s_isletters) (C8.fnBody s_isletters) (C8.fnScope s_isletters) .none kV_isletters dc_isletters pm_isletters an_isletters cd_isletters ct_isletters), sl_isletters⟩)
    (c_isletters : PySem.W.codeIn K cd_isletters "is_letters" = true)
    (k_isletters : PySem.W.keepIn K (.ref f_isletters) = true)
    (a_issigns : PySem.W.nsIn K mainGlobals "is_signs" = some (some (.ref f_issigns)))
    (l_issigns : K.lookup f_issigns = some ⟨oc_issigns, od_issigns, .func (PySem.W.fnOf "is_signs" "is_signs" (C8.fnArgs s_issigns) (C8.fnBody s_issigns) (C8.fnScope s_issigns) .none kV_issigns dc_issigns pm_issigns an_issigns cd_issigns ct_issigns), sl_issigns⟩)
    (c_issigns : PySem.W.codeIn K cd_issigns "is_signs" = true)
    (k_issigns : PySem.W.keepIn K (.ref f_issigns) = true)
    (a_isname : PySem.W.nsIn K mainGlobals "is_name" = some (some (.ref f_isname)))
    (l_isname : K.lookup f_isname = some ⟨oc_isname, od_isname, .func (PySem.W.fnOf "is_name" "is_name" (C8.fnArgs s_isname) (C8.fnBody s_isname) (C8.fnScope s_isname) .none kV_isname dc_isname pm_isname an_isname cd_isname ct_isname), sl_isname⟩)
    (c_isname : PySem.W.codeIn K cd_isname "is_name" = true)
    (k_isname : PySem.W.keepIn K (.ref f_isname) = true)
    (a_isrows : PySem.W.nsIn K mainGlobals "is_rows" = some (some (.ref f_isrows)))
    (l_isrows : K.lookup f_isrows = some ⟨oc_isrows, od_isrows, .func (PySem.W.fnOf "is_rows" "is_rows" (C8.fnArgs s_isrows) (C8.fnBody s_isrows) (C8.fnScope s_isrows) .none kV_isrows dc_isrows pm_isrows an_isrows cd_isrows ct_isrows), sl_isrows⟩)
    (c_isrows : PySem.W.codeIn K cd_isrows "is_rows" = true)
    (k_isrows : PySem.W.keepIn K (.ref f_isrows) = true)
    (a_ismarks : PySem.W.nsIn K mainGlobals "_is_marks" = some (some (.ref f_ismarks)))
    (l_ismarks : K.lookup f_ismarks = some ⟨oc_ismarks, od_ismarks, .func (PySem.W.fnOf "_is_marks" "_is_marks" (C8.fnArgs s_ismarks) (C8.fnBody s_ismarks) (C8.fnScope s_ismarks) .none kV_ismarks dc_ismarks pm_ismarks an_ismarks cd_ismarks ct_ismarks), sl_ismarks⟩)
    (c_ismarks : PySem.W.codeIn K cd_ismarks "_is_marks" = true)
    (k_ismarks : PySem.W.keepIn K (.ref f_ismarks) = true)
    (a_istargets : PySem.W.nsIn K mainGlobals "_is_targets" = some (some (.ref f_istargets)))
    (l_istargets : K.lookup f_istargets = some ⟨oc_istargets, od_istargets, .func (PySem.W.fnOf "_is_targets" "_is_targets" (C8.fnArgs s_istargets) (C8.fnBody s_istargets) (C8.fnScope s_istargets) .none kV_istargets dc_istargets pm_istargets an_istargets cd_istargets ct_istargets), sl_istargets⟩)
    (c_istargets : PySem.W.codeIn K cd_istargets "_is_targets" = true)
    (k_istargets : PySem.W.keepIn K (.ref f_istargets) = true)
    (a_issteps : PySem.W.nsIn K mainGlobals "_is_steps" = some (some (.ref f_issteps)))
    (l_issteps : K.lookup f_issteps = some ⟨oc_issteps, od_issteps, .func (PySem.W.fnOf "_is_steps" "_is_steps" (C8.fnArgs s_issteps) (C8.fnBody s_issteps) (C8.fnScope s_issteps) .none kV_issteps dc_issteps pm_issteps an_issteps cd_issteps ct_issteps), sl_issteps⟩)
    (c_issteps : PySem.W.codeIn K cd_issteps "_is_steps" = true)
    (k_issteps : PySem.W.keepIn K (.ref f_issteps) = true)
    (a_m_num : PySem.W.findIn K (.ref C_Reader) "number_of" = some (some (.ref f_m_num)))
    (i_m_num : PySem.W.isFn K (.ref f_m_num) = true)
    (l_m_num : K.lookup f_m_num = some ⟨oc_m_num, od_m_num, .func (PySem.W.fnOf "number_of" "Reader.number_of" (C8.fnArgs s_m_num) (C8.fnBody s_m_num) (C8.fnScope s_m_num) .none kV_m_num dc_m_num pm_m_num an_m_num cd_m_num ct_m_num), sl_m_num⟩)
    (c_m_num : PySem.W.codeIn K cd_m_num "Reader.number_of" = true)
    (k_m_num : PySem.W.keepIn K (.ref f_m_num) = true)
    (a_table : PySem.W.nsIn K mainGlobals "table_of" = some (some (.ref f_table)))
    (l_table : K.lookup f_table = some ⟨oc_table, od_table, .func (PySem.W.fnOf "table_of" "table_of" (C8.fnArgs s_table) (C8.fnBody s_table) (C8.fnScope s_table) .none kV_table dc_table pm_table an_table cd_table ct_table), sl_table⟩)
    (c_table : PySem.W.codeIn K cd_table "table_of" = true)
    (k_table : PySem.W.keepIn K (.ref f_table) = true)
    (a_cols : PySem.W.nsIn K mainGlobals "columns_of" = some (some (.ref f_cols)))
    (l_cols : K.lookup f_cols = some ⟨oc_cols, od_cols, .func (PySem.W.fnOf "columns_of" "columns_of" (C8.fnArgs s_cols) (C8.fnBody s_cols) (C8.fnScope s_cols) .none kV_cols dc_cols pm_cols an_cols cd_cols ct_cols), sl_cols⟩)
    (c_cols : PySem.W.codeIn K cd_cols "columns_of" = true)
    (k_cols : PySem.W.keepIn K (.ref f_cols) = true)
    (a_init : PySem.W.findIn K (.ref C_Reader) "__init__" = some (some (.ref f_init)))
    (i_init : PySem.W.isFn K (.ref f_init) = true)
    (l_init : K.lookup f_init = some ⟨oc_init, od_init, .func (PySem.W.fnOf "__init__" "Reader.__init__" (C8.fnArgs s_init) (C8.fnBody s_init) (C8.fnScope s_init) .none kV_init dc_init pm_init an_init cd_init ct_init), sl_init⟩)
    (c_init : PySem.W.codeIn K cd_init "Reader.__init__" = true)
    (k_init : PySem.W.keepIn K (.ref f_init) = true)
    (a_m_nled : PySem.W.findIn K (.ref C_Reader) "numbers_led" = some (some (.ref f_m_nled)))
    (i_m_nled : PySem.W.isFn K (.ref f_m_nled) = true)
    (l_m_nled : K.lookup f_m_nled = some ⟨oc_m_nled, od_m_nled, .func (PySem.W.fnOf "numbers_led" "Reader.numbers_led" (C8.fnArgs s_m_nled) (C8.fnBody s_m_nled) (C8.fnScope s_m_nled) .none kV_m_nled dc_m_nled pm_m_nled an_m_nled cd_m_nled ct_m_nled), sl_m_nled⟩)
    (c_m_nled : PySem.W.codeIn K cd_m_nled "Reader.numbers_led" = true)
    (k_m_nled : PySem.W.keepIn K (.ref f_m_nled) = true)
    (a_cinit : PySem.W.findIn K (.ref C_Change) "__init__" = some (some (.ref f_cinit)))
    (i_cinit : PySem.W.isFn K (.ref f_cinit) = true)
    (l_cinit : K.lookup f_cinit = some ⟨oc_cinit, od_cinit, .func (PySem.W.fnOf "__init__" "Change.__init__" (C8.fnArgs s_cinit) (C8.fnBody s_cinit) (C8.fnScope s_cinit) .none kV_cinit dc_cinit pm_cinit an_cinit cd_cinit ct_cinit), sl_cinit⟩)
    (c_cinit : PySem.W.codeIn K cd_cinit "Change.__init__" = true)
    (k_cinit : PySem.W.keepIn K (.ref f_cinit) = true)
    (a_of : PySem.W.findIn K (.ref C_Change) "of" = some (some (.ref f_of)))
    (i_of : PySem.W.isFn K (.ref f_of) = true)
    (l_of : K.lookup f_of = some ⟨oc_of, od_of, .func (PySem.W.fnOf "of" "Change.of" (C8.fnArgs s_of) (C8.fnBody s_of) (C8.fnScope s_of) .none kV_of dc_of pm_of an_of cd_of ct_of), sl_of⟩)
    (c_of : PySem.W.codeIn K cd_of "Change.of" = true)
    (k_of : PySem.W.keepIn K (.ref f_of) = true)
    (a_pinit : PySem.W.findIn K (.ref C_Placing) "__init__" = some (some (.ref f_pinit)))
    (i_pinit : PySem.W.isFn K (.ref f_pinit) = true)
    (l_pinit : K.lookup f_pinit = some ⟨oc_pinit, od_pinit, .func (PySem.W.fnOf "__init__" "Placing.__init__" (C8.fnArgs s_pinit) (C8.fnBody s_pinit) (C8.fnScope s_pinit) .none kV_pinit dc_pinit pm_pinit an_pinit cd_pinit ct_pinit), sl_pinit⟩)
    (c_pinit : PySem.W.codeIn K cd_pinit "Placing.__init__" = true)
    (k_pinit : PySem.W.keepIn K (.ref f_pinit) = true)
    (a_stepof : PySem.W.findIn K (.ref C_Placing) "_step_of" = some (some (.ref f_stepof)))
    (i_stepof : PySem.W.isFn K (.ref f_stepof) = true)
    (l_stepof : K.lookup f_stepof = some ⟨oc_stepof, od_stepof, .func (PySem.W.fnOf "_step_of" "Placing._step_of" (C8.fnArgs s_stepof) (C8.fnBody s_stepof) (C8.fnScope s_stepof) .none kV_stepof dc_stepof pm_stepof an_stepof cd_stepof ct_stepof), sl_stepof⟩)
    (c_stepof : PySem.W.codeIn K cd_stepof "Placing._step_of" = true)
    (k_stepof : PySem.W.keepIn K (.ref f_stepof) = true)
    (a_ledp : PySem.W.nsIn K mainGlobals "_led_places" = some (some (.ref f_ledp)))
    (l_ledp : K.lookup f_ledp = some ⟨oc_ledp, od_ledp, .func (PySem.W.fnOf "_led_places" "_led_places" (C8.fnArgs s_ledp) (C8.fnBody s_ledp) (C8.fnScope s_ledp) .none kV_ledp dc_ledp pm_ledp an_ledp cd_ledp ct_ledp), sl_ledp⟩)
    (c_ledp : PySem.W.codeIn K cd_ledp "_led_places" = true)
    (k_ledp : PySem.W.keepIn K (.ref f_ledp) = true)
    (a_rop : PySem.W.nsIn K mainGlobals "row_of_part" = some (some (.ref f_rop)))
    (l_rop : K.lookup f_rop = some ⟨oc_rop, od_rop, .func (PySem.W.fnOf "row_of_part" "row_of_part" (C8.fnArgs s_rop) (C8.fnBody s_rop) (C8.fnScope s_rop) .none kV_rop dc_rop pm_rop an_rop cd_rop ct_rop), sl_rop⟩)
    (c_rop : PySem.W.codeIn K cd_rop "row_of_part" = true)
    (k_rop : PySem.W.keepIn K (.ref f_rop) = true)
    (a_sinit : PySem.W.findIn K (.ref C_Sight) "__init__" = some (some (.ref f_sinit)))
    (i_sinit : PySem.W.isFn K (.ref f_sinit) = true)
    (l_sinit : K.lookup f_sinit = some ⟨oc_sinit, od_sinit, .func (PySem.W.fnOf "__init__" "Sight.__init__" (C8.fnArgs s_sinit) (C8.fnBody s_sinit) (C8.fnScope s_sinit) .none kV_sinit dc_sinit pm_sinit an_sinit cd_sinit ct_sinit), sl_sinit⟩)
    (c_sinit : PySem.W.codeIn K cd_sinit "Sight.__init__" = true)
    (k_sinit : PySem.W.keepIn K (.ref f_sinit) = true)
    (a_slen : PySem.W.findIn K (.ref C_Sight) "__len__" = some (some (.ref f_slen)))
    (i_slen : PySem.W.isFn K (.ref f_slen) = true)
    (l_slen : K.lookup f_slen = some ⟨oc_slen, od_slen, .func (PySem.W.fnOf "__len__" "Sight.__len__" (C8.fnArgs s_slen) (C8.fnBody s_slen) (C8.fnScope s_slen) .none kV_slen dc_slen pm_slen an_slen cd_slen ct_slen), sl_slen⟩)
    (c_slen : PySem.W.codeIn K cd_slen "Sight.__len__" = true)
    (k_slen : PySem.W.keepIn K (.ref f_slen) = true)
    (a_seq : PySem.W.findIn K (.ref C_Sight) "__eq__" = some (some (.ref f_seq)))
    (i_seq : PySem.W.isFn K (.ref f_seq) = true)
    (l_seq : K.lookup f_seq = some ⟨oc_seq, od_seq, .func (PySem.W.fnOf "__eq__" "Sight.__eq__" (C8.fnArgs s_seq) (C8.fnBody s_seq) (C8.fnScope s_seq) .none kV_seq dc_seq pm_seq an_seq cd_seq ct_seq), sl_seq⟩)
    (c_seq : PySem.W.codeIn K cd_seq "Sight.__eq__" = true)
    (k_seq : PySem.W.keepIn K (.ref f_seq) = true)
    (a_ispart : PySem.W.nsIn K mainGlobals "_is_part" = some (some (.ref f_ispart)))
    (l_ispart : K.lookup f_ispart = some ⟨oc_ispart, od_ispart, .func (PySem.W.fnOf "_is_part" "_is_part" (C8.fnArgs s_ispart) (C8.fnBody s_ispart) (C8.fnScope s_ispart) .none kV_ispart dc_ispart pm_ispart an_ispart cd_ispart ct_ispart), sl_ispart⟩)
    (c_ispart : PySem.W.codeIn K cd_ispart "_is_part" = true)
    (k_ispart : PySem.W.keepIn K (.ref f_ispart) = true)
    (a_xis : PySem.W.findIn K (.ref C_InvalidSight) "__init__" = some (some (.ref f_xis)))
    (i_xis : PySem.W.isFn K (.ref f_xis) = true)
    (l_xis : K.lookup f_xis = some ⟨oc_xis, od_xis, .func (PySem.W.fnOf "__init__" "InvalidSight.__init__" (C8.fnArgs s_xis) (C8.fnBody s_xis) (C8.fnScope s_xis) .none kV_xis dc_xis pm_xis an_xis cd_xis ct_xis), sl_xis⟩)
    (c_xis : PySem.W.codeIn K cd_xis "InvalidSight.__init__" = true)
    (k_xis : PySem.W.keepIn K (.ref f_xis) = true)
    (a_law : PySem.W.nsIn K mainGlobals "law" = some (some (.ref f_law)))
    (l_law : K.lookup f_law = some ⟨oc_law, od_law, .func (PySem.W.fnOf "law" "law" (C8.fnArgs s_law) (C8.fnBody s_law) (C8.fnScope s_law) .none kV_law dc_law pm_law an_law cd_law ct_law), sl_law⟩)
    (c_law : PySem.W.codeIn K cd_law "law" = true)
    (k_law : PySem.W.keepIn K (.ref f_law) = true)
    (z_int : PySem.W.nsIn K mainGlobals "int" = some none)
    (z_len : PySem.W.nsIn K mainGlobals "len" = some none)
    (z_abs : PySem.W.nsIn K mainGlobals "abs" = some none)
    (z_str : PySem.W.nsIn K mainGlobals "str" = some none)
    (z_list : PySem.W.nsIn K mainGlobals "list" = some none)
    (z_tuple : PySem.W.nsIn K mainGlobals "tuple" = some none)
    (z_dict : PySem.W.nsIn K mainGlobals "dict" = some none)
    (z_set : PySem.W.nsIn K mainGlobals "set" = some none)
    (z_isinstance : PySem.W.nsIn K mainGlobals "isinstance" = some none)
    (z_all : PySem.W.nsIn K mainGlobals "all" = some none)
    (z_zip : PySem.W.nsIn K mainGlobals "zip" = some none)
    (z_enumerate : PySem.W.nsIn K mainGlobals "enumerate" = some none)
    (z_range : PySem.W.nsIn K mainGlobals "range" = some none)
    (z_max : PySem.W.nsIn K mainGlobals "max" = some none)
    (z_min : PySem.W.nsIn K mainGlobals "min" = some none)
    (z_sorted : PySem.W.nsIn K mainGlobals "sorted" = some none)
    (z_repr : PySem.W.nsIn K mainGlobals "repr" = some none)
    (z_bool : PySem.W.nsIn K mainGlobals "bool" = some none) :
    ∃ fd : FuncData, (∀ (s : Shared) (v : Value), BindsTo s fd ⟨[v], []⟩ [("script", v)]) ∧ ∀ base : Heap, K.In base → base.Ns mainGlobals mg → FnG l.prog w K mg base 11 fa fd ["script"] (spLaw K) := by
  have e := hfa.symm.trans (PySem.W.mg_of X G a_law)
  cases e
  have T : BT mg := ⟨PySem.W.mg_none_of X G z_int, PySem.W.mg_none_of X G z_len, PySem.W.mg_none_of X G z_abs, PySem.W.mg_none_of X G z_str, PySem.W.mg_none_of X G z_list, PySem.W.mg_none_of X G z_tuple, PySem.W.mg_none_of X G z_dict, PySem.W.mg_none_of X G z_set, PySem.W.mg_none_of X G z_isinstance, PySem.W.mg_none_of X G z_all, PySem.W.mg_none_of X G z_zip, PySem.W.mg_none_of X G z_enumerate, PySem.W.mg_none_of X G z_range, PySem.W.mg_none_of X G z_max, PySem.W.mg_none_of X G z_min, PySem.W.mg_none_of X G z_sorted, PySem.W.mg_none_of X G z_repr, PySem.W.mg_none_of X G z_bool⟩
  have mg_az := PySem.W.mg_of X G q_az
  have U_flow : C8.Fun K "_law_flow" "_law_flow" s_flow f_flow (PySem.W.fnOf "_law_flow" "_law_flow" (C8.fnArgs s_flow) (C8.fnBody s_flow) (C8.fnScope s_flow) .none kV_flow dc_flow pm_flow an_flow cd_flow ct_flow) := ⟨oc_flow, od_flow, .none, kV_flow, dc_flow, pm_flow, an_flow, cd_flow, ct_flow, sl_flow, rfl, l_flow, c_flow⟩
  have F_flow : C8.Def K mg "_law_flow" s_flow f_flow _ := ⟨U_flow, PySem.W.mg_of X G a_flow, k_flow⟩
  have b_flow := U_flow.binds rfl (ps := ["script", "base"]) fun _ _ _ _ _ _ us hl => match us, hl with | [_, _], _ => rfl
  have U_less : C8.Fun K "_law_less" "_law_less" s_less f_less (PySem.W.fnOf "_law_less" "_law_less" (C8.fnArgs s_less) (C8.fnBody s_less) (C8.fnScope s_less) .none kV_less dc_less pm_less an_less cd_less ct_less) := ⟨oc_less, od_less, .none, kV_less, dc_less, pm_less, an_less, cd_less, ct_less, sl_less, rfl, l_less, c_less⟩
  have F_less : C8.Def K mg "_law_less" s_less f_less _ := ⟨U_less, PySem.W.mg_of X G a_less, k_less⟩
  have b_less := U_less.binds rfl (ps := ["flow", "wide"]) fun _ _ _ _ _ _ us hl => match us, hl with | [_, _], _ => rfl
  have U_anyof : C8.Fun K "_law_any_of" "_law_any_of" s_anyof f_anyof (PySem.W.fnOf "_law_any_of" "_law_any_of" (C8.fnArgs s_anyof) (C8.fnBody s_anyof) (C8.fnScope s_anyof) .none kV_anyof dc_anyof pm_anyof an_anyof cd_anyof ct_anyof) := ⟨oc_anyof, od_anyof, .none, kV_anyof, dc_anyof, pm_anyof, an_anyof, cd_anyof, ct_anyof, sl_anyof, rfl, l_anyof, c_anyof⟩
  have F_anyof : C8.Def K mg "_law_any_of" s_anyof f_anyof _ := ⟨U_anyof, PySem.W.mg_of X G a_anyof, k_anyof⟩
  have b_anyof := U_anyof.binds rfl (ps := ["flow", "some"]) fun _ _ _ _ _ _ us hl => match us, hl with | [_, _], _ => rfl
  have U_shaken : C8.Fun K "_law_shaken" "_law_shaken" s_shaken f_shaken (PySem.W.fnOf "_law_shaken" "_law_shaken" (C8.fnArgs s_shaken) (C8.fnBody s_shaken) (C8.fnScope s_shaken) .none kV_shaken dc_shaken pm_shaken an_shaken cd_shaken ct_shaken) := ⟨oc_shaken, od_shaken, .none, kV_shaken, dc_shaken, pm_shaken, an_shaken, cd_shaken, ct_shaken, sl_shaken, rfl, l_shaken, c_shaken⟩
  have F_shaken : C8.Def K mg "_law_shaken" s_shaken f_shaken _ := ⟨U_shaken, PySem.W.mg_of X G a_shaken, k_shaken⟩
  have b_shaken := U_shaken.binds rfl (ps := ["flow", "some"]) fun _ _ _ _ _ _ us hl => match us, hl with | [_, _], _ => rfl
  have U_letters : C8.Fun K "_law_letters" "_law_letters" s_letters f_letters (PySem.W.fnOf "_law_letters" "_law_letters" (C8.fnArgs s_letters) (C8.fnBody s_letters) (C8.fnScope s_letters) .none kV_letters dc_letters pm_letters an_letters cd_letters ct_letters) := ⟨oc_letters, od_letters, .none, kV_letters, dc_letters, pm_letters, an_letters, cd_letters, ct_letters, sl_letters, rfl, l_letters, c_letters⟩
  have F_letters : C8.Def K mg "_law_letters" s_letters f_letters _ := ⟨U_letters, PySem.W.mg_of X G a_letters, k_letters⟩
  have b_letters := U_letters.binds rfl (ps := ["flow", "most"]) fun _ _ _ _ _ _ us hl => match us, hl with | [_, _], _ => rfl
  have U_draft : C8.Fun K "_law_draft" "_law_draft" s_draft f_draft (PySem.W.fnOf "_law_draft" "_law_draft" (C8.fnArgs s_draft) (C8.fnBody s_draft) (C8.fnScope s_draft) .none kV_draft dc_draft pm_draft an_draft cd_draft ct_draft) := ⟨oc_draft, od_draft, .none, kV_draft, dc_draft, pm_draft, an_draft, cd_draft, ct_draft, sl_draft, rfl, l_draft, c_draft⟩
  have F_draft : C8.Def K mg "_law_draft" s_draft f_draft _ := ⟨U_draft, PySem.W.mg_of X G a_draft, k_draft⟩
  have b_draft := U_draft.binds rfl (ps := ["flow", "signs_here", "most"]) fun _ _ _ _ _ _ us hl => match us, hl with | [_, _, _], _ => rfl
  have U_lreader : C8.Fun K "_law_reader" "_law_reader" s_lreader f_lreader (PySem.W.fnOf "_law_reader" "_law_reader" (C8.fnArgs s_lreader) (C8.fnBody s_lreader) (C8.fnScope s_lreader) .none kV_lreader dc_lreader pm_lreader an_lreader cd_lreader ct_lreader) := ⟨oc_lreader, od_lreader, .none, kV_lreader, dc_lreader, pm_lreader, an_lreader, cd_lreader, ct_lreader, sl_lreader, rfl, l_lreader, c_lreader⟩
  have F_lreader : C8.Def K mg "_law_reader" s_lreader f_lreader _ := ⟨U_lreader, PySem.W.mg_of X G a_lreader, k_lreader⟩
  have b_lreader := U_lreader.binds rfl (ps := ["signs_here", "draft"]) fun _ _ _ _ _ _ us hl => match us, hl with | [_, _], _ => rfl
  have U_line : C8.Fun K "_law_line" "_law_line" s_line f_line (PySem.W.fnOf "_law_line" "_law_line" (C8.fnArgs s_line) (C8.fnBody s_line) (C8.fnScope s_line) .none kV_line dc_line pm_line an_line cd_line ct_line) := ⟨oc_line, od_line, .none, kV_line, dc_line, pm_line, an_line, cd_line, ct_line, sl_line, rfl, l_line, c_line⟩
  have F_line : C8.Def K mg "_law_line" s_line f_line _ := ⟨U_line, PySem.W.mg_of X G a_line, k_line⟩
  have b_line := U_line.binds rfl (ps := ["flow", "signs_here", "most"]) fun _ _ _ _ _ _ us hl => match us, hl with | [_, _, _], _ => rfl
  have U_exch : C8.Fun K "_law_exchange" "_law_exchange" s_exch f_exch (PySem.W.fnOf "_law_exchange" "_law_exchange" (C8.fnArgs s_exch) (C8.fnBody s_exch) (C8.fnScope s_exch) .none kV_exch dc_exch pm_exch an_exch cd_exch ct_exch) := ⟨oc_exch, od_exch, .none, kV_exch, dc_exch, pm_exch, an_exch, cd_exch, ct_exch, sl_exch, rfl, l_exch, c_exch⟩
  have F_exch : C8.Def K mg "_law_exchange" s_exch f_exch _ := ⟨U_exch, PySem.W.mg_of X G a_exch, k_exch⟩
  have b_exch := U_exch.binds rfl (ps := ["flow", "signs_here"]) fun _ _ _ _ _ _ us hl => match us, hl with | [_, _], _ => rfl
  have U_part : C8.Fun K "_law_part" "_law_part" s_part f_part (PySem.W.fnOf "_law_part" "_law_part" (C8.fnArgs s_part) (C8.fnBody s_part) (C8.fnScope s_part) .none kV_part dc_part pm_part an_part cd_part ct_part) := ⟨oc_part, od_part, .none, kV_part, dc_part, pm_part, an_part, cd_part, ct_part, sl_part, rfl, l_part, c_part⟩
  have F_part : C8.Def K mg "_law_part" s_part f_part _ := ⟨U_part, PySem.W.mg_of X G a_part, k_part⟩
  have b_part := U_part.binds rfl (ps := ["flow", "signs_here", "drafts"]) fun _ _ _ _ _ _ us hl => match us, hl with | [_, _, _], _ => rfl
  have U_lsight : C8.Fun K "_law_sight" "_law_sight" s_lsight f_lsight (PySem.W.fnOf "_law_sight" "_law_sight" (C8.fnArgs s_lsight) (C8.fnBody s_lsight) (C8.fnScope s_lsight) .none kV_lsight dc_lsight pm_lsight an_lsight cd_lsight ct_lsight) := ⟨oc_lsight, od_lsight, .none, kV_lsight, dc_lsight, pm_lsight, an_lsight, cd_lsight, ct_lsight, sl_lsight, rfl, l_lsight, c_lsight⟩
  have F_lsight : C8.Def K mg "_law_sight" s_lsight f_lsight _ := ⟨U_lsight, PySem.W.mg_of X G a_lsight, k_lsight⟩
  have b_lsight := U_lsight.binds rfl (ps := ["signs_here", "drafts", "parts_here"]) fun _ _ _ _ _ _ us hl => match us, hl with | [_, _, _], _ => rfl
  have U_word : C8.Fun K "_law_word" "_law_word" s_word f_word (PySem.W.fnOf "_law_word" "_law_word" (C8.fnArgs s_word) (C8.fnBody s_word) (C8.fnScope s_word) .none kV_word dc_word pm_word an_word cd_word ct_word) := ⟨oc_word, od_word, .none, kV_word, dc_word, pm_word, an_word, cd_word, ct_word, sl_word, rfl, l_word, c_word⟩
  have F_word : C8.Def K mg "_law_word" s_word f_word _ := ⟨U_word, PySem.W.mg_of X G a_word, k_word⟩
  have b_word := U_word.binds rfl (ps := ["signs_here", "parts_here"]) fun _ _ _ _ _ _ us hl => match us, hl with | [_, _], _ => rfl
  have U_isseq : C8.Fun K "is_sequence" "is_sequence" s_isseq f_isseq (PySem.W.fnOf "is_sequence" "is_sequence" (C8.fnArgs s_isseq) (C8.fnBody s_isseq) (C8.fnScope s_isseq) .none kV_isseq dc_isseq pm_isseq an_isseq cd_isseq ct_isseq) := ⟨oc_isseq, od_isseq, .none, kV_isseq, dc_isseq, pm_isseq, an_isseq, cd_isseq, ct_isseq, sl_isseq, rfl, l_isseq, c_isseq⟩
  have F_isseq : C8.Def K mg "is_sequence" s_isseq f_isseq _ := ⟨U_isseq, PySem.W.mg_of X G a_isseq, k_isseq⟩
  have b_isseq := U_isseq.binds rfl (ps := ["value"]) fun _ _ _ _ _ _ us hl => match us, hl with | [_], _ => rfl
  have U_istup : C8.Fun K "is_tuple_of" "is_tuple_of" s_istup f_istup (PySem.W.fnOf "is_tuple_of" "is_tuple_of" (C8.fnArgs s_istup) (C8.fnBody s_istup) (C8.fnScope s_istup) .none kV_istup dc_istup pm_istup an_istup cd_istup ct_istup) := ⟨oc_istup, od_istup, .none, kV_istup, dc_istup, pm_istup, an_istup, cd_istup, ct_istup, sl_istup, rfl, l_istup, c_istup⟩
  have F_istup : C8.Def K mg "is_tuple_of" s_istup f_istup _ := ⟨U_istup, PySem.W.mg_of X G a_istup, k_istup⟩
  have b_istup := U_istup.binds rfl (ps := ["value", "many"]) fun _ _ _ _ _ _ us hl => match us, hl with | [_, _], _ => rfl
  have U_isrow : C8.Fun K "is_row" "is_row" s_isrow f_isrow (PySem.W.fnOf "is_row" "is_row" (C8.fnArgs s_isrow) (C8.fnBody s_isrow) (C8.fnScope s_isrow) .none kV_isrow dc_isrow pm_isrow an_isrow cd_isrow ct_isrow) := ⟨oc_isrow, od_isrow, .none, kV_isrow, dc_isrow, pm_isrow, an_isrow, cd_isrow, ct_isrow, sl_isrow, rfl, l_isrow, c_isrow⟩
  have F_isrow : C8.Def K mg "is_row" s_isrow f_isrow _ := ⟨U_isrow, PySem.W.mg_of X G a_isrow, k_isrow⟩
  have b_isrow := U_isrow.binds rfl (ps := ["value", "signs"]) fun _ _ _ _ _ _ us hl => match us, hl with | [_, _], _ => rfl
  have U_isletters : C8.Fun K "is_letters" "is_letters" s_isletters f_isletters (PySem.W.fnOf "is_letters" "is_letters" (C8.fnArgs s_isletters) (C8.fnBody s_isletters) (C8.fnScope s_isletters) .none kV_isletters dc_isletters pm_isletters an_isletters cd_isletters ct_isletters) := ⟨oc_isletters, od_isletters, .none, kV_isletters, dc_isletters, pm_isletters, an_isletters, cd_isletters, ct_isletters, sl_isletters, rfl, l_isletters, c_isletters⟩
  have F_isletters : C8.Def K mg "is_letters" s_isletters f_isletters _ := ⟨U_isletters, PySem.W.mg_of X G a_isletters, k_isletters⟩
  have b_isletters := U_isletters.binds rfl (ps := ["value"]) fun _ _ _ _ _ _ us hl => match us, hl with | [_], _ => rfl
  have U_issigns : C8.Fun K "is_signs" "is_signs" s_issigns f_issigns (PySem.W.fnOf "is_signs" "is_signs" (C8.fnArgs s_issigns) (C8.fnBody s_issigns) (C8.fnScope s_issigns) .none kV_issigns dc_issigns pm_issigns an_issigns cd_issigns ct_issigns) := ⟨oc_issigns, od_issigns, .none, kV_issigns, dc_issigns, pm_issigns, an_issigns, cd_issigns, ct_issigns, sl_issigns, rfl, l_issigns, c_issigns⟩
  have F_issigns : C8.Def K mg "is_signs" s_issigns f_issigns _ := ⟨U_issigns, PySem.W.mg_of X G a_issigns, k_issigns⟩
  have b_issigns := U_issigns.binds rfl (ps := ["value"]) fun _ _ _ _ _ _ us hl => match us, hl with | [_], _ => rfl
  have U_isname : C8.Fun K "is_name" "is_name" s_isname f_isname (PySem.W.fnOf "is_name" "is_name" (C8.fnArgs s_isname) (C8.fnBody s_isname) (C8.fnScope s_isname) .none kV_isname dc_isname pm_isname an_isname cd_isname ct_isname) := ⟨oc_isname, od_isname, .none, kV_isname, dc_isname, pm_isname, an_isname, cd_isname, ct_isname, sl_isname, rfl, l_isname, c_isname⟩
  have F_isname : C8.Def K mg "is_name" s_isname f_isname _ := ⟨U_isname, PySem.W.mg_of X G a_isname, k_isname⟩
  have b_isname := U_isname.binds rfl (ps := ["value"]) fun _ _ _ _ _ _ us hl => match us, hl with | [_], _ => rfl
  have U_isrows : C8.Fun K "is_rows" "is_rows" s_isrows f_isrows (PySem.W.fnOf "is_rows" "is_rows" (C8.fnArgs s_isrows) (C8.fnBody s_isrows) (C8.fnScope s_isrows) .none kV_isrows dc_isrows pm_isrows an_isrows cd_isrows ct_isrows) := ⟨oc_isrows, od_isrows, .none, kV_isrows, dc_isrows, pm_isrows, an_isrows, cd_isrows, ct_isrows, sl_isrows, rfl, l_isrows, c_isrows⟩
  have F_isrows : C8.Def K mg "is_rows" s_isrows f_isrows _ := ⟨U_isrows, PySem.W.mg_of X G a_isrows, k_isrows⟩
  have b_isrows := U_isrows.binds rfl (ps := ["value", "signs"]) fun _ _ _ _ _ _ us hl => match us, hl with | [_, _], _ => rfl
  have U_ismarks : C8.Fun K "_is_marks" "_is_marks" s_ismarks f_ismarks (PySem.W.fnOf "_is_marks" "_is_marks" (C8.fnArgs s_ismarks) (C8.fnBody s_ismarks) (C8.fnScope s_ismarks) .none kV_ismarks dc_ismarks pm_ismarks an_ismarks cd_ismarks ct_ismarks) := ⟨oc_ismarks, od_ismarks, .none, kV_ismarks, dc_ismarks, pm_ismarks, an_ismarks, cd_ismarks, ct_ismarks, sl_ismarks, rfl, l_ismarks, c_ismarks⟩
  have F_ismarks : C8.Def K mg "_is_marks" s_ismarks f_ismarks _ := ⟨U_ismarks, PySem.W.mg_of X G a_ismarks, k_ismarks⟩
  have b_ismarks := U_ismarks.binds rfl (ps := ["value"]) fun _ _ _ _ _ _ us hl => match us, hl with | [_], _ => rfl
  have U_istargets : C8.Fun K "_is_targets" "_is_targets" s_istargets f_istargets (PySem.W.fnOf "_is_targets" "_is_targets" (C8.fnArgs s_istargets) (C8.fnBody s_istargets) (C8.fnScope s_istargets) .none kV_istargets dc_istargets pm_istargets an_istargets cd_istargets ct_istargets) := ⟨oc_istargets, od_istargets, .none, kV_istargets, dc_istargets, pm_istargets, an_istargets, cd_istargets, ct_istargets, sl_istargets, rfl, l_istargets, c_istargets⟩
  have F_istargets : C8.Def K mg "_is_targets" s_istargets f_istargets _ := ⟨U_istargets, PySem.W.mg_of X G a_istargets, k_istargets⟩
  have b_istargets := U_istargets.binds rfl (ps := ["value", "signs", "marks"]) fun _ _ _ _ _ _ us hl => match us, hl with | [_, _, _], _ => rfl
  have U_issteps : C8.Fun K "_is_steps" "_is_steps" s_issteps f_issteps (PySem.W.fnOf "_is_steps" "_is_steps" (C8.fnArgs s_issteps) (C8.fnBody s_issteps) (C8.fnScope s_issteps) .none kV_issteps dc_issteps pm_issteps an_issteps cd_issteps ct_issteps) := ⟨oc_issteps, od_issteps, .none, kV_issteps, dc_issteps, pm_issteps, an_issteps, cd_issteps, ct_issteps, sl_issteps, rfl, l_issteps, c_issteps⟩
  have F_issteps : C8.Def K mg "_is_steps" s_issteps f_issteps _ := ⟨U_issteps, PySem.W.mg_of X G a_issteps, k_issteps⟩
  have b_issteps := U_issteps.binds rfl (ps := ["value", "signs", "marks"]) fun _ _ _ _ _ _ us hl => match us, hl with | [_, _, _], _ => rfl
  have U_m_num : C8.Fun K "number_of" "Reader.number_of" s_m_num f_m_num (PySem.W.fnOf "number_of" "Reader.number_of" (C8.fnArgs s_m_num) (C8.fnBody s_m_num) (C8.fnScope s_m_num) .none kV_m_num dc_m_num pm_m_num an_m_num cd_m_num ct_m_num) := ⟨oc_m_num, od_m_num, .none, kV_m_num, dc_m_num, pm_m_num, an_m_num, cd_m_num, ct_m_num, sl_m_num, rfl, l_m_num, c_m_num⟩
  have me_m_num : Meth K C_Reader "number_of" f_m_num := ⟨a_m_num, i_m_num, k_m_num⟩
  have b_m_num := U_m_num.binds rfl (ps := ["self", "mark"]) fun _ _ _ _ _ _ us hl => match us, hl with | [_, _], _ => rfl
  have U_table : C8.Fun K "table_of" "table_of" s_table f_table (PySem.W.fnOf "table_of" "table_of" (C8.fnArgs s_table) (C8.fnBody s_table) (C8.fnScope s_table) .none kV_table dc_table pm_table an_table cd_table ct_table) := ⟨oc_table, od_table, .none, kV_table, dc_table, pm_table, an_table, cd_table, ct_table, sl_table, rfl, l_table, c_table⟩
  have F_table : C8.Def K mg "table_of" s_table f_table _ := ⟨U_table, PySem.W.mg_of X G a_table, k_table⟩
  have b_table := U_table.binds rfl (ps := ["reader"]) fun _ _ _ _ _ _ us hl => match us, hl with | [_], _ => rfl
  have U_cols : C8.Fun K "columns_of" "columns_of" s_cols f_cols (PySem.W.fnOf "columns_of" "columns_of" (C8.fnArgs s_cols) (C8.fnBody s_cols) (C8.fnScope s_cols) .none kV_cols dc_cols pm_cols an_cols cd_cols ct_cols) := ⟨oc_cols, od_cols, .none, kV_cols, dc_cols, pm_cols, an_cols, cd_cols, ct_cols, sl_cols, rfl, l_cols, c_cols⟩
  have F_cols : C8.Def K mg "columns_of" s_cols f_cols _ := ⟨U_cols, PySem.W.mg_of X G a_cols, k_cols⟩
  have b_cols := U_cols.binds rfl (ps := ["signs", "table"]) fun _ _ _ _ _ _ us hl => match us, hl with | [_, _], _ => rfl
  have U_init : C8.Fun K "__init__" "Reader.__init__" s_init f_init (PySem.W.fnOf "__init__" "Reader.__init__" (C8.fnArgs s_init) (C8.fnBody s_init) (C8.fnScope s_init) .none kV_init dc_init pm_init an_init cd_init ct_init) := ⟨oc_init, od_init, .none, kV_init, dc_init, pm_init, an_init, cd_init, ct_init, sl_init, rfl, l_init, c_init⟩
  have me_init : Meth K C_Reader "__init__" f_init := ⟨a_init, i_init, k_init⟩
  have b_init := U_init.binds rfl (ps := ["self", "signs", "marks", "first", "steps"]) fun _ _ _ _ _ _ us hl => match us, hl with | [_, _, _, _, _], _ => rfl
  have U_m_nled : C8.Fun K "numbers_led" "Reader.numbers_led" s_m_nled f_m_nled (PySem.W.fnOf "numbers_led" "Reader.numbers_led" (C8.fnArgs s_m_nled) (C8.fnBody s_m_nled) (C8.fnScope s_m_nled) .none kV_m_nled dc_m_nled pm_m_nled an_m_nled cd_m_nled ct_m_nled) := ⟨oc_m_nled, od_m_nled, .none, kV_m_nled, dc_m_nled, pm_m_nled, an_m_nled, cd_m_nled, ct_m_nled, sl_m_nled, rfl, l_m_nled, c_m_nled⟩
  have me_m_nled : Meth K C_Reader "numbers_led" f_m_nled := ⟨a_m_nled, i_m_nled, k_m_nled⟩
  have b_m_nled := U_m_nled.binds rfl (ps := ["self", "row"]) fun _ _ _ _ _ _ us hl => match us, hl with | [_, _], _ => rfl
  have U_cinit : C8.Fun K "__init__" "Change.__init__" s_cinit f_cinit (PySem.W.fnOf "__init__" "Change.__init__" (C8.fnArgs s_cinit) (C8.fnBody s_cinit) (C8.fnScope s_cinit) .none kV_cinit dc_cinit pm_cinit an_cinit cd_cinit ct_cinit) := ⟨oc_cinit, od_cinit, .none, kV_cinit, dc_cinit, pm_cinit, an_cinit, cd_cinit, ct_cinit, sl_cinit, rfl, l_cinit, c_cinit⟩
  have me_cinit : Meth K C_Change "__init__" f_cinit := ⟨a_cinit, i_cinit, k_cinit⟩
  have b_cinit := U_cinit.binds rfl (ps := ["self", "signs", "rows"]) fun _ _ _ _ _ _ us hl => match us, hl with | [_, _, _], _ => rfl
  have U_of : C8.Fun K "of" "Change.of" s_of f_of (PySem.W.fnOf "of" "Change.of" (C8.fnArgs s_of) (C8.fnBody s_of) (C8.fnScope s_of) .none kV_of dc_of pm_of an_of cd_of ct_of) := ⟨oc_of, od_of, .none, kV_of, dc_of, pm_of, an_of, cd_of, ct_of, sl_of, rfl, l_of, c_of⟩
  have me_of : Meth K C_Change "of" f_of := ⟨a_of, i_of, k_of⟩
  have b_of := U_of.binds rfl (ps := ["self", "row"]) fun _ _ _ _ _ _ us hl => match us, hl with | [_, _], _ => rfl
  have U_pinit : C8.Fun K "__init__" "Placing.__init__" s_pinit f_pinit (PySem.W.fnOf "__init__" "Placing.__init__" (C8.fnArgs s_pinit) (C8.fnBody s_pinit) (C8.fnScope s_pinit) .none kV_pinit dc_pinit pm_pinit an_pinit cd_pinit ct_pinit) := ⟨oc_pinit, od_pinit, .none, kV_pinit, dc_pinit, pm_pinit, an_pinit, cd_pinit, ct_pinit, sl_pinit, rfl, l_pinit, c_pinit⟩
  have me_pinit : Meth K C_Placing "__init__" f_pinit := ⟨a_pinit, i_pinit, k_pinit⟩
  have b_pinit := U_pinit.binds rfl (ps := ["self", "signs", "parts"]) fun _ _ _ _ _ _ us hl => match us, hl with | [_, _, _], _ => rfl
  have U_stepof : C8.Fun K "_step_of" "Placing._step_of" s_stepof f_stepof (PySem.W.fnOf "_step_of" "Placing._step_of" (C8.fnArgs s_stepof) (C8.fnBody s_stepof) (C8.fnScope s_stepof) .none kV_stepof dc_stepof pm_stepof an_stepof cd_stepof ct_stepof) := ⟨oc_stepof, od_stepof, .none, kV_stepof, dc_stepof, pm_stepof, an_stepof, cd_stepof, ct_stepof, sl_stepof, rfl, l_stepof, c_stepof⟩
  have me_stepof : Meth K C_Placing "_step_of" f_stepof := ⟨a_stepof, i_stepof, k_stepof⟩
  have b_stepof := U_stepof.binds rfl (ps := ["self", "sign"]) fun _ _ _ _ _ _ us hl => match us, hl with | [_, _], _ => rfl
  have U_ledp : C8.Fun K "_led_places" "_led_places" s_ledp f_ledp (PySem.W.fnOf "_led_places" "_led_places" (C8.fnArgs s_ledp) (C8.fnBody s_ledp) (C8.fnScope s_ledp) .none kV_ledp dc_ledp pm_ledp an_ledp cd_ledp ct_ledp) := ⟨oc_ledp, od_ledp, .none, kV_ledp, dc_ledp, pm_ledp, an_ledp, cd_ledp, ct_ledp, sl_ledp, rfl, l_ledp, c_ledp⟩
  have F_ledp : C8.Def K mg "_led_places" s_ledp f_ledp _ := ⟨U_ledp, PySem.W.mg_of X G a_ledp, k_ledp⟩
  have b_ledp := U_ledp.binds rfl (ps := ["begin", "part", "row"]) fun _ _ _ _ _ _ us hl => match us, hl with | [_, _, _], _ => rfl
  have U_rop : C8.Fun K "row_of_part" "row_of_part" s_rop f_rop (PySem.W.fnOf "row_of_part" "row_of_part" (C8.fnArgs s_rop) (C8.fnBody s_rop) (C8.fnScope s_rop) .none kV_rop dc_rop pm_rop an_rop cd_rop ct_rop) := ⟨oc_rop, od_rop, .none, kV_rop, dc_rop, pm_rop, an_rop, cd_rop, ct_rop, sl_rop, rfl, l_rop, c_rop⟩
  have F_rop : C8.Def K mg "row_of_part" s_rop f_rop _ := ⟨U_rop, PySem.W.mg_of X G a_rop, k_rop⟩
  have b_rop := U_rop.binds rfl (ps := ["part", "row"]) fun _ _ _ _ _ _ us hl => match us, hl with | [_, _], _ => rfl
  have U_sinit : C8.Fun K "__init__" "Sight.__init__" s_sinit f_sinit (PySem.W.fnOf "__init__" "Sight.__init__" (C8.fnArgs s_sinit) (C8.fnBody s_sinit) (C8.fnScope s_sinit) .none kV_sinit dc_sinit pm_sinit an_sinit cd_sinit ct_sinit) := ⟨oc_sinit, od_sinit, .none, kV_sinit, dc_sinit, pm_sinit, an_sinit, cd_sinit, ct_sinit, sl_sinit, rfl, l_sinit, c_sinit⟩
  have me_sinit : Meth K C_Sight "__init__" f_sinit := ⟨a_sinit, i_sinit, k_sinit⟩
  have b_sinit := U_sinit.binds rfl (ps := ["self", "signs", "parts"]) fun _ _ _ _ _ _ us hl => match us, hl with | [_, _, _], _ => rfl
  have U_slen : C8.Fun K "__len__" "Sight.__len__" s_slen f_slen (PySem.W.fnOf "__len__" "Sight.__len__" (C8.fnArgs s_slen) (C8.fnBody s_slen) (C8.fnScope s_slen) .none kV_slen dc_slen pm_slen an_slen cd_slen ct_slen) := ⟨oc_slen, od_slen, .none, kV_slen, dc_slen, pm_slen, an_slen, cd_slen, ct_slen, sl_slen, rfl, l_slen, c_slen⟩
  have me_slen : Meth K C_Sight "__len__" f_slen := ⟨a_slen, i_slen, k_slen⟩
  have b_slen := U_slen.binds rfl (ps := ["self"]) fun _ _ _ _ _ _ us hl => match us, hl with | [_], _ => rfl
  have U_seq : C8.Fun K "__eq__" "Sight.__eq__" s_seq f_seq (PySem.W.fnOf "__eq__" "Sight.__eq__" (C8.fnArgs s_seq) (C8.fnBody s_seq) (C8.fnScope s_seq) .none kV_seq dc_seq pm_seq an_seq cd_seq ct_seq) := ⟨oc_seq, od_seq, .none, kV_seq, dc_seq, pm_seq, an_seq, cd_seq, ct_seq, sl_seq, rfl, l_seq, c_seq⟩
  have me_seq : Meth K C_Sight "__eq__" f_seq := ⟨a_seq, i_seq, k_seq⟩
  have b_seq := U_seq.binds rfl (ps := ["self", "other"]) fun _ _ _ _ _ _ us hl => match us, hl with | [_, _], _ => rfl
  have U_ispart : C8.Fun K "_is_part" "_is_part" s_ispart f_ispart (PySem.W.fnOf "_is_part" "_is_part" (C8.fnArgs s_ispart) (C8.fnBody s_ispart) (C8.fnScope s_ispart) .none kV_ispart dc_ispart pm_ispart an_ispart cd_ispart ct_ispart) := ⟨oc_ispart, od_ispart, .none, kV_ispart, dc_ispart, pm_ispart, an_ispart, cd_ispart, ct_ispart, sl_ispart, rfl, l_ispart, c_ispart⟩
  have F_ispart : C8.Def K mg "_is_part" s_ispart f_ispart _ := ⟨U_ispart, PySem.W.mg_of X G a_ispart, k_ispart⟩
  have b_ispart := U_ispart.binds rfl (ps := ["value", "signs"]) fun _ _ _ _ _ _ us hl => match us, hl with | [_, _], _ => rfl
  have U_xis : C8.Fun K "__init__" "InvalidSight.__init__" s_xis f_xis (PySem.W.fnOf "__init__" "InvalidSight.__init__" (C8.fnArgs s_xis) (C8.fnBody s_xis) (C8.fnScope s_xis) .none kV_xis dc_xis pm_xis an_xis cd_xis ct_xis) := ⟨oc_xis, od_xis, .none, kV_xis, dc_xis, pm_xis, an_xis, cd_xis, ct_xis, sl_xis, rfl, l_xis, c_xis⟩
  have me_xis : Meth K C_InvalidSight "__init__" f_xis := ⟨a_xis, i_xis, k_xis⟩
  have b_xis := U_xis.binds rfl (ps := ["self", "word"]) fun _ _ _ _ _ _ us hl => match us, hl with | [_, _], _ => rfl
  have U_law : C8.Fun K "law" "law" s_law fa (PySem.W.fnOf "law" "law" (C8.fnArgs s_law) (C8.fnBody s_law) (C8.fnScope s_law) .none kV_law dc_law pm_law an_law cd_law ct_law) := ⟨oc_law, od_law, .none, kV_law, dc_law, pm_law, an_law, cd_law, ct_law, sl_law, rfl, l_law, c_law⟩
  have F_law : C8.Def K mg "law" s_law fa _ := ⟨U_law, PySem.W.mg_of X G a_law, k_law⟩
  have b_law := U_law.binds rfl (ps := ["script"]) fun _ _ _ _ _ _ us hl => match us, hl with | [_], _ => rfl
  have Cl_Reader : Cls K C_Reader := ⟨pg_Reader, hd_Reader, po_Reader, sa_Reader⟩
  have mg_Reader := PySem.W.mg_of X G g_Reader
  have M_Reader : Mk K C_Reader f_init := ⟨mk_Reader, a_init, i_init, kc_Reader⟩
  have I_Reader : C8.InsC K C_Reader := ⟨Cl_Reader, ha_Reader, hn_Reader, tk_Reader, hm_Reader, if_pos (beq_self_eq_true _)⟩
  have Cl_Change : Cls K C_Change := ⟨pg_Change, hd_Change, po_Change, sa_Change⟩
  have mg_Change := PySem.W.mg_of X G g_Change
  have M_Change : Mk K C_Change f_cinit := ⟨mk_Change, a_cinit, i_cinit, kc_Change⟩
  have I_Change : C8.InsC K C_Change := ⟨Cl_Change, ha_Change, hn_Change, tk_Change, hm_Change, if_pos (beq_self_eq_true _)⟩
  have Cl_Placing : Cls K C_Placing := ⟨pg_Placing, hd_Placing, po_Placing, sa_Placing⟩
  have mg_Placing := PySem.W.mg_of X G g_Placing
  have M_Placing : Mk K C_Placing f_pinit := ⟨mk_Placing, a_pinit, i_pinit, kc_Placing⟩
  have Cl_Sight : Cls K C_Sight := ⟨pg_Sight, hd_Sight, po_Sight, sa_Sight⟩
  have mg_Sight := PySem.W.mg_of X G g_Sight
  have M_Sight : Mk K C_Sight f_sinit := ⟨mk_Sight, a_sinit, i_sinit, kc_Sight⟩
  have I_Sight : C8.InsC K C_Sight := ⟨Cl_Sight, ha_Sight, hn_Sight, tk_Sight, hm_Sight, if_pos (beq_self_eq_true _)⟩
  have N_Sight : NeC K C_Sight := ⟨ne_Sight, hm_Sight, sf_Sight⟩
  refine ⟨PySem.W.fnOf "law" "law" (C8.fnArgs s_law) (C8.fnBody s_law) (C8.fnScope s_law) .none kV_law dc_law pm_law an_law cd_law ct_law, fun s v => .of_eq rfl, fun base _ _ => ?_⟩
  have CH : CR K C_Reader := ⟨Cl_Reader, n_Reader_signs, n_Reader_marks, n_Reader_first, n_Reader_steps, n_Reader__numbers, n_Reader__leads, n_Reader__columns⟩
  have CH2 : CC K C_Change := ⟨Cl_Change, n_Change_signs, n_Change_rows⟩
  have CH3 : CP K C_Placing := ⟨Cl_Placing, n_Placing_signs, n_Placing_parts, n_Placing_marks, n_Placing_spans, n_Placing_at_first, n_Placing_steps⟩
  have CHS : CSt K C_Sight := ⟨Cl_Sight, n_Sight_signs, n_Sight_parts, n_Sight_placing⟩
  have c_less := ok_less (P := l.prog) (w := w) (base := base) T F_less b_less
  have c_anyof := ok_any T c_less F_anyof b_anyof
  have c_shaken := ok_shaken T c_less F_shaken b_shaken
  have c_letters := ok_letters T c_less c_anyof F_letters b_letters
  have c_line := ok_line T c_less c_anyof F_line b_line
  have c_flow := ok_flow (P := l.prog) (w := w) (base := base) T F_flow b_flow
  have c_draft := ok_draft T c_less c_anyof c_shaken F_draft b_draft
  have c_isseqY := ok_isseqY (P := l.prog) (w := w) (base := base) T F_isseq b_isseq
  have c_isseq := g_isseq c_isseqY
  have c_isrowD := ok_isrowD (P := l.prog) (w := w) (base := base) T F_isrow b_isrow
  have c_isrow := g_isrow c_isrowD
  have c_islettersD := ok_islettersD T mg_az c_isrowD F_isletters b_isletters
  have c_isletters := g_isletters c_islettersD
  have c_issignsD := ok_issignsD T c_islettersD F_issigns b_issigns
  have c_issigns := g_issigns c_issignsD
  have hNN : ∀ H, SqT K H N_nn (txs no10) := no_names tl_nn
  have c_isname := ok_isname T (PySem.W.mg_of X G tg_nn) hNN c_isletters F_isname b_isname
  have c_ismarks := ok_ismarks T c_isseq c_isname F_ismarks b_ismarks
  have c_istargets := ok_istargets T c_isseq F_istargets b_istargets
  have c_issteps := ok_issteps T c_isseq c_istargets F_issteps b_issteps
  have c_m_num := ok_mnum (P := l.prog) (w := w) (base := base) T CH me_m_num U_m_num b_m_num
  have c_table := ok_table T CH c_m_num F_table b_table
  have c_cols := ok_cols (P := l.prog) (w := w) (base := base) T F_cols b_cols
  have c_Reader := ok_init T CH c_issigns c_ismarks c_issteps c_table c_cols M_Reader mg_Reader U_init b_init
  have c_lreader := ok_lreader T CH mg_Reader c_Reader F_lreader b_lreader
  have c_m_nled := ok_mnled (P := l.prog) (w := w) (base := base) T CH me_m_nled U_m_nled b_m_nled
  have c_isrows := ok_isrows T c_isseq c_isrow F_isrows b_isrows
  have c_Change := ok_cinit T CH2 c_issigns c_isrows M_Change mg_Change U_cinit b_cinit
  have c_of := ok_of (P := l.prog) (w := w) (base := base) T CH2 me_of U_of b_of
  have c_rop := ok_rop (C := C_Reader) T c_of F_rop b_rop
  have c_ledp := ok_ledp T CH c_m_nled c_rop F_ledp b_ledp
  have c_stepof := ok_stepof T CH3 c_ledp me_stepof U_stepof b_stepof
  have c_Placing := ok_pinit T CH CH3 c_stepof M_Placing mg_Placing U_pinit b_pinit
  have c_istup := ok_istup (P := l.prog) (w := w) (base := base) T F_istup b_istup
  have c_ispart := ok_ispart T CH CH2 I_Reader I_Change mg_Reader mg_Change c_istup F_ispart b_ispart
  have x_IS : XQ K mg "InvalidSight" C_InvalidSight := ⟨xc_InvalidSight, PySem.W.mg_of X G xg_InvalidSight⟩
  have g_RE : XG mg "RowError" C_RowError := ⟨PySem.W.mg_of X G xg_RowError⟩
  have c_IS := ok_xis (P := l.prog) (w := w) (base := base) x_IS xf_InvalidSight a_xis (beq_iff_eq.mp i_xis) U_xis b_xis
  have o_sinit := ok_sinit T CHS c_IS c_issignsD c_isseqY c_ispart c_Placing U_sinit
  have c_Sight := ok_smake T CHS c_IS c_issignsD c_isseqY c_ispart c_Placing M_Sight mg_Sight U_sinit b_sinit
  have ck_Sight : MakXK l.prog w K mg base 8 "Sight" C_Sight ["parts", "signs"] swap2 (spSInit K C_Reader C_Change C_Sight C_InvalidSight) := ⟨⟨f_sinit, _, _, swapV, M_Sight, o_sinit, mg_Sight, ⟨fun s us ws X l1 l2 => match us, ws, l1, l2 with | [_], [_, _], _, _ => .of_eq rfl, fun r1 r2 => swap_rel r1 r2⟩⟩⟩
  have c_slen := ok_slen (P := l.prog) (w := w) (base := base) T CHS me_slen U_slen b_slen
  have c_seq := ok_seq (P := l.prog) (w := w) (base := base) T CHS I_Sight mg_Sight me_seq U_seq b_seq
  have c_exch := ok_exch T c_less c_line F_exch b_exch
  have c_part := ok_part T c_less c_exch F_part b_part
  have c_lsight := ok_lsight T c_lreader c_Change c_Sight F_lsight b_lsight
  have c_word := ok_word T c_Sight x_IS xf_InvalidSight g_RE xs_CC xk_CR F_word b_word
  exact ok_law T CH CHS I_Reader N_Sight ⟨kn0, ks0, ks1, ktS, krl, krt, knf⟩ c_flow c_less c_letters c_draft c_part c_lsight ck_Sight c_Sight c_slen c_seq c_Reader c_Change c_word F_law
theorem walk {l : PySem.W.OpenLaw} {q : Program} {loose : List Str} {XP : (Str → Option Value) → Heap → Prop} {YP : World → Heap → Prop} {d : DefRec} {K : Params → PySem.W.Frag} (hn : l.most = some 63) (hdf : d.params.defaults = [])
    (hY : ∀ (w : World) (h : Heap), YP w h → (K w.params).In h)
    (F : ∀ (w : World) (mg : Str → Option Value) (fa : Addr) (h : Heap), (K w.params).In h → h.Ns mainGlobals mg → mg d.name = some (.ref fa) →
      ∃ fd : FuncData, (∀ (s : Shared) (u : Value), BindsTo s fd ⟨[u], []⟩ [("script", u)]) ∧ ∀ base : Heap, (K w.params).In base → base.Ns mainGlobals mg → FnG l.prog w (K w.params) mg base 11 fa fd ["script"] (spLaw (K w.params))) :
    PySem.W.WalkO q loose XP YP l.row.toRowW d [] (fun f vs => PySem.call f vs) :=
  walkG (n := 63) (k := 11) (x := "script") (sp := fun K => spLaw K) hn (by decide) hdf ⟨rfl, by decide, by decide⟩ hY F fun _ _ a ns hl _ hS => ⟨a, ns, rfl, hS, hl, fun _ => rfl⟩
end Toy
open PySem PySem.W PyProof.Rows in
set_option maxRecDepth 100000 in
set_option maxHeartbeats 0 in
theorem PySem.Challenge.cw_allrows_k24_sights_made_and_refused_holds : PySem.Challenge.rw_allrows_k24_sights_made_and_refused.Holds := by
  w_on; o_law; k_head; (case hw => w_witness2)
  k_fill
  refine Toy.walk (l := PySem.Challenge.rw_allrows_k24_sights_made_and_refused) rfl rfl (fun w h Y => PySem.W.kIn_of Y) ?F
  case F =>
    intro w mg fa h KX G hmg
    refine' Toy.all_mk KX G hmg ?tg_nn ?tl_nn ?q_az ?g_Reader ?pg_Reader ?hd_Reader ?po_Reader ?sa_Reader ?kc_Reader ?n_Reader_signs ?n_Reader_marks ?n_Reader_first ?n_Reader_steps ?n_Reader__numbers ?n_Reader__leads ?n_Reader__columns ?mk_Reader ?ha_Reader ?hn_Reader ?tk_Reader ?hm_Reader ?g_Change ?pg_Change ?hd_Change ?po_Change ?sa_Change ?kc_Change ?n_Change_signs ?n_Change_rows ?mk_Change ?ha_Change ?hn_Change ?tk_Change ?hm_Change ?g_Placing ?pg_Placing ?hd_Placing ?po_Placing ?sa_Placing ?kc_Placing ?n_Placing_signs ?n_Placing_parts ?n_Placing_marks ?n_Placing_spans ?n_Placing_at_first ?n_Placing_steps ?mk_Placing ?g_Sight ?pg_Sight ?hd_Sight ?po_Sight ?sa_Sight ?kc_Sight ?n_Sight_signs ?n_Sight_parts ?n_Sight_placing ?mk_Sight ?ha_Sight ?hn_Sight ?tk_Sight ?hm_Sight ?ne_Sight ?sf_Sight ?xg_InvalidSight ?xg_RowError ?xc_InvalidSight ?xf_InvalidSight ?xs_CC ?xk_CR ?kn0 ?ks0 ?ks1 ?ktS ?krl ?krt ?knf ?a_flow ?l_flow ?c_flow ?k_flow ?a_less ?l_less ?c_less ?k_less ?a_anyof ?l_anyof ?c_anyof ?k_anyof ?a_shaken ?l_shaken ?c_shaken ?k_shaken ?a_letters ?l_letters ?c_letters ?k_letters ?a_draft ?l_draft ?c_draft ?k_draft ?a_lreader ?l_lreader ?c_lreader ?k_lreader ?a_line ?l_line ?c_line ?k_line ?a_exch ?l_exch ?c_exch ?k_exch ?a_part ?l_part ?c_part ?k_part ?a_lsight ?l_lsight ?c_lsight ?k_lsight ?a_word ?l_word ?c_word ?k_word ?a_isseq ?l_isseq ?c_isseq ?k_isseq ?a_istup ?l_istup ?c_istup ?k_istup ?a_isrow ?l_isrow ?c_isrow ?k_isrow ?a_isletters ?l_isletters ?c_isletters ?k_isletters ?a_issigns ?l_issigns ?c_issigns ?k_issigns ?a_isname ?l_isname ?c_isname ?k_isname ?a_isrows ?l_isrows ?c_isrows ?k_isrows ?a_ismarks ?l_ismarks ?c_ismarks ?k_ismarks ?a_istargets ?l_istargets ?c_istargets ?k_istargets ?a_issteps ?l_issteps ?c_issteps ?k_issteps ?a_m_num ?i_m_num ?l_m_num ?c_m_num ?k_m_num ?a_table ?l_table ?c_table ?k_table ?a_cols ?l_cols ?c_cols ?k_cols ?a_init ?i_init ?l_init ?c_init ?k_init ?a_m_nled ?i_m_nled ?l_m_nled ?c_m_nled ?k_m_nled ?a_cinit ?i_cinit ?l_cinit ?c_cinit ?k_cinit ?a_of ?i_of ?l_of ?c_of ?k_of ?a_pinit ?i_pinit ?l_pinit ?c_pinit ?k_pinit ?a_stepof ?i_stepof ?l_stepof ?c_stepof ?k_stepof ?a_ledp ?l_ledp ?c_ledp ?k_ledp ?a_rop ?l_rop ?c_rop ?k_rop ?a_sinit ?i_sinit ?l_sinit ?c_sinit ?k_sinit ?a_slen ?i_slen ?l_slen ?c_slen ?k_slen ?a_seq ?i_seq ?l_seq ?c_seq ?k_seq ?a_ispart ?l_ispart ?c_ispart ?k_ispart ?a_xis ?i_xis ?l_xis ?c_xis ?k_xis ?a_law ?l_law ?c_law ?k_law ?z_int ?z_len ?z_abs ?z_str ?z_list ?z_tuple ?z_dict ?z_set ?z_isinstance ?z_all ?z_zip ?z_enumerate ?z_range ?z_max ?z_min ?z_sorted ?z_repr ?z_bool
    (case tg_nn => k_is)
    (case tl_nn => k_is)
    (case q_az => k_is)
    (case g_Reader => k_is)
    (case pg_Reader => k_is)
    (case hd_Reader => k_is)
    (case po_Reader => k_is)
    (case sa_Reader => k_is)
    (case kc_Reader => k_is)
    (case n_Reader_signs => k_is)
    (case n_Reader_marks => k_is)
    (case n_Reader_first => k_is)
    (case n_Reader_steps => k_is)
    (case n_Reader__numbers => k_is)
    (case n_Reader__leads => k_is)
    (case n_Reader__columns => k_is)
    (case mk_Reader => k_is)
    (case ha_Reader => k_is)
    (case hn_Reader => k_is)
    (case tk_Reader => k_is)
    (case hm_Reader => k_is)
    (case g_Change => k_is)
    (case pg_Change => k_is)
    (case hd_Change => k_is)
    (case po_Change => k_is)
    (case sa_Change => k_is)
    (case kc_Change => k_is)
    (case n_Change_signs => k_is)
    (case n_Change_rows => k_is)
    (case mk_Change => k_is)
    (case ha_Change => k_is)
    (case hn_Change => k_is)
    (case tk_Change => k_is)
    (case hm_Change => k_is)
    (case g_Placing => k_is)
    (case pg_Placing => k_is)
    (case hd_Placing => k_is)
    (case po_Placing => k_is)
    (case sa_Placing => k_is)
    (case kc_Placing => k_is)
    (case n_Placing_signs => k_is)
    (case n_Placing_parts => k_is)
    (case n_Placing_marks => k_is)
    (case n_Placing_spans => k_is)
    (case n_Placing_at_first => k_is)
    (case n_Placing_steps => k_is)
    (case mk_Placing => k_is)
    (case g_Sight => k_is)
    (case pg_Sight => k_is)
    (case hd_Sight => k_is)
    (case po_Sight => k_is)
    (case sa_Sight => k_is)
    (case kc_Sight => k_is)
    (case n_Sight_signs => k_is)
    (case n_Sight_parts => k_is)
    (case n_Sight_placing => k_is)
    (case mk_Sight => k_is)
    (case ha_Sight => k_is)
    (case hn_Sight => k_is)
    (case tk_Sight => k_is)
    (case hm_Sight => k_is)
    (case ne_Sight => k_is)
    (case sf_Sight => k_is)
    (case xg_InvalidSight => k_is)
    (case xg_RowError => k_is)
    (case xc_InvalidSight => exact LX.XC.ve (by show PySem.W.excInitIn _ _ [.type "ValueError", .type "Exception", .type "BaseException", .type "object"] "ValueError.__new__" = true; kx_is) (by k_is) (by k_is) (by k_is) (by k_is) (by k_is) (by k_is) (by k_is) (by k_is) (by k_is) (by k_is) (by k_is))
    (case xf_InvalidSight => k_is)
    (case xs_CC => k_is)
    (case xk_CR => kit_is)
    (case kn0 => kit_is)
    (case ks0 => kit_is)
    (case ks1 => kit_is)
    (case ktS => kit_is)
    (case krl => kit_is)
    (case krt => kit_is)
    (case knf => k_is)
    (case a_flow => k_is)
    (case l_flow => k_is)
    (case c_flow => k_is)
    (case k_flow => k_is)
    (case a_less => k_is)
    (case l_less => k_is)
    (case c_less => k_is)
    (case k_less => k_is)
    (case a_anyof => k_is)
    (case l_anyof => k_is)
    (case c_anyof => k_is)
    (case k_anyof => k_is)
    (case a_shaken => k_is)
    (case l_shaken => k_is)
    (case c_shaken => k_is)
    (case k_shaken => k_is)
    (case a_letters => k_is)
    (case l_letters => k_is)
    (case c_letters => k_is)
    (case k_letters => k_is)
    (case a_draft => k_is)
    (case l_draft => k_is)
    (case c_draft => k_is)
    (case k_draft => k_is)
    (case a_lreader => k_is)
    (case l_lreader => k_is)
    (case c_lreader => k_is)
    (case k_lreader => k_is)
    (case a_line => k_is)
    (case l_line => k_is)
    (case c_line => k_is)
    (case k_line => k_is)
    (case a_exch => k_is)
    (case l_exch => k_is)
    (case c_exch => k_is)
    (case k_exch => k_is)
    (case a_part => k_is)
    (case l_part => k_is)
    (case c_part => k_is)
    (case k_part => k_is)
    (case a_lsight => k_is)
    (case l_lsight => k_is)
    (case c_lsight => k_is)
    (case k_lsight => k_is)
    (case a_word => k_is)
    (case l_word => k_is)
    (case c_word => k_is)
    (case k_word => k_is)
    (case a_isseq => k_is)
    (case l_isseq => k_is)
    (case c_isseq => k_is)
    (case k_isseq => k_is)
    (case a_istup => k_is)
    (case l_istup => k_is)
    (case c_istup => k_is)
    (case k_istup => k_is)
    (case a_isrow => k_is)
    (case l_isrow => k_is)
    (case c_isrow => k_is)
    (case k_isrow => k_is)
    (case a_isletters => k_is)
    (case l_isletters => k_is)
    (case c_isletters => k_is)
    (case k_isletters => k_is)
    (case a_issigns => k_is)
    (case l_issigns => k_is)
    (case c_issigns => k_is)
    (case k_issigns => k_is)
    (case a_isname => k_is)
    (case l_isname => k_is)
    (case c_isname => k_is)
    (case k_isname => k_is)
    (case a_isrows => k_is)
    (case l_isrows => k_is)
    (case c_isrows => k_is)
    (case k_isrows => k_is)
    (case a_ismarks => k_is)
    (case l_ismarks => k_is)
    (case c_ismarks => k_is)
    (case k_ismarks => k_is)
    (case a_istargets => k_is)
    (case l_istargets => k_is)
    (case c_istargets => k_is)
    (case k_istargets => k_is)
    (case a_issteps => k_is)
    (case l_issteps => k_is)
    (case c_issteps => k_is)
    (case k_issteps => k_is)
    (case a_m_num => k_is)
    (case i_m_num => k_is)
    (case l_m_num => k_is)
    (case c_m_num => k_is)
    (case k_m_num => k_is)
    (case a_table => k_is)
    (case l_table => k_is)
    (case c_table => k_is)
    (case k_table => k_is)
    (case a_cols => k_is)
    (case l_cols => k_is)
    (case c_cols => k_is)
    (case k_cols => k_is)
    (case a_init => k_is)
    (case i_init => k_is)
    (case l_init => k_is)
    (case c_init => k_is)
    (case k_init => k_is)
    (case a_m_nled => k_is)
    (case i_m_nled => k_is)
    (case l_m_nled => k_is)
    (case c_m_nled => k_is)
    (case k_m_nled => k_is)
    (case a_cinit => k_is)
    (case i_cinit => k_is)
    (case l_cinit => k_is)
    (case c_cinit => k_is)
    (case k_cinit => k_is)
    (case a_of => k_is)
    (case i_of => k_is)
    (case l_of => k_is)
    (case c_of => k_is)
    (case k_of => k_is)
    (case a_pinit => k_is)
    (case i_pinit => k_is)
    (case l_pinit => k_is)
    (case c_pinit => k_is)
    (case k_pinit => k_is)
    (case a_stepof => k_is)
    (case i_stepof => k_is)
    (case l_stepof => k_is)
    (case c_stepof => k_is)
    (case k_stepof => k_is)
    (case a_ledp => k_is)
    (case l_ledp => k_is)
    (case c_ledp => k_is)
    (case k_ledp => k_is)
    (case a_rop => k_is)
    (case l_rop => k_is)
    (case c_rop => k_is)
    (case k_rop => k_is)
    (case a_sinit => k_is)
    (case i_sinit => k_is)
    (case l_sinit => k_is)
    (case c_sinit => k_is)
    (case k_sinit => k_is)
    (case a_slen => k_is)
    (case i_slen => k_is)
    (case l_slen => k_is)
    (case c_slen => k_is)
    (case k_slen => k_is)
    (case a_seq => k_is)
    (case i_seq => k_is)
    (case l_seq => k_is)
    (case c_seq => k_is)
    (case k_seq => k_is)
    (case a_ispart => k_is)
    (case l_ispart => k_is)
    (case c_ispart => k_is)
    (case k_ispart => k_is)
    (case a_xis => k_is)
    (case i_xis => k_is)
    (case l_xis => k_is)
    (case c_xis => k_is)
    (case k_xis => k_is)
    (case a_law => k_is)
    (case l_law => k_is)
    (case c_law => k_is)
    (case k_law => k_is)
    (case z_int => k_is)
    (case z_len => k_is)
    (case z_abs => k_is)
    (case z_str => k_is)
    (case z_list => k_is)
    (case z_tuple => k_is)
    (case z_dict => k_is)
    (case z_set => k_is)
    (case z_isinstance => k_is)
    (case z_all => k_is)
    (case z_zip => k_is)
    (case z_enumerate => k_is)
    (case z_range => k_is)
    (case z_max => k_is)
    (case z_min => k_is)
    (case z_sorted => k_is)
    (case z_repr => k_is)
    (case z_bool => k_is)
