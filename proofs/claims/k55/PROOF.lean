import PyProof.Rows.All
import Wide.All
import OpenK.AllK
import Wide.FinOn
import Lean
import PyProof.EqAt
import PyProof.EqKinds
import PyProof.TupleCall
import PyProof.DictItems
import PyProof.Rows.SortShell
import PyProof.ListRange
import PyProof.ZipIter
import PyProof.StationsW
import OpenK.KOwn
import PyProof.NsDelKeeps
import PyProof.TupleOfSeq
import KE.KDictOf
import PyProof.Rows.TupDisplay
import PyProof.DictIter
import PySem.Challenge.RW_codemill_k55_whole_fewest_swaps
local macro_rules | `(tactic| trivial) => `(tactic| (dsimp only; decide +kernel))
local macro_rules | `(tactic| trivial) => `(tactic| decide +kernel)
abbrev ka:=@Bool.false_ne_true
abbrev kc:=@Nat.le_refl
abbrev kd:=@List.getElem?_eq_some_iff
abbrev ke:=@decide_eq_false
abbrev kf:=@decide_eq_true
abbrev kg:=@List.length_map
abbrev kh:=@List.length_append
abbrev ki:=@PySem.W.mg_of
abbrev kj:=@List.mem_singleton
abbrev kl:=@List.not_mem_nil
abbrev km:=@Nat.le_trans
abbrev ko:=PySem.W.Frag
abbrev kq:=@if_neg
abbrev kr:=@if_pos
abbrev kt:=@Option.some.inj
abbrev ku:=@of_decide_eq_true
abbrev kw:=@List.mem_cons
abbrev kx:=@List.size_toArray
abbrev ky:=@List.length_singleton
abbrev kz:=@List.mem_of_getElem?
abbrev kC:=@List.map_append
abbrev kD:=@List.getElem?_eq_getElem
abbrev kE:=@Nat.lt_of_lt_of_le
abbrev kF:=@List.mem_append_right
abbrev kG:=@List.mem_append_left
abbrev kH:=@List.length_cons
abbrev kI:=@List.mem_cons_self
abbrev kJ:=@List.mem_cons_of_mem
abbrev kK:=@List.mem_append
abbrev kL:=@List.map_cons
abbrev kM:=@List.append_nil
abbrev kO:=@Nat.le_of_eq
abbrev kP:=@Int.eq_ofNat_of_zero_le
abbrev kQ:=@Int.toNat_natCast
abbrev kR:=@Nat.lt_succ_self
abbrev kS:=@beq_self_eq_true
abbrev kT:=@Bool.and_eq_true
abbrev kW:=@List.mem_map
abbrev kX:=@List.getElem?_append_left
abbrev kY:=@List.getElem?_append_right
set_option genInjectivity true
set_option genSizeOf false
set_option Elab.async false
set_option linter.all false
set_option maxRecDepth 100000
theorem aR (h:True=True:=by rfl) (k:(0:Nat)=0:=by decide):True:=trivial
namespace L2
open PySem PySem.Spec PyProof.Rows
abbrev Key:=Sum Int Str
noncomputable def Qk:Key→Value→Bool
 | .inl k,v=>Value.isInt k v
 | .inr x,v=>Value.isStrOf x v
noncomputable def keyH (w:World):Key→Int
 | .inl k=>hashInt k
 | .inr x=>hashStr w x
theorem zu:∀{k:Key} {v:Value},Qk k v=true→(∃i t,k=Sum.inl i∧v=Value.int i t)∨(∃x t,k=Sum.inr x∧v=Value.str x t)
 | .inl i,v,h=>by
  obtain ⟨t,e⟩:=Value.isInt_shape (k:=i) (v:=v) h
  exact .inl ⟨i,t,rfl,e⟩
 | .inr x,v,h=>by
  obtain ⟨t,e⟩:=Value.isStrOf_shape (x:=x) (v:=v) h
  exact .inr ⟨x,t,rfl,e⟩
theorem Jb (i:Int) (t:Tok):Qk (.inl i) (.int i t)=true:=by simp [Qk,Value.isInt]
theorem Ja (x:Str) (t:Tok):Qk (.inr x) (.str x t)=true:=by simp [Qk,Value.isStrOf]
theorem z28 (a b:Int):decide ((Sum.inl a:Key)=Sum.inl b)=(a == b):=by
 by_cases e:a=b
 ·subst e;simp
 ·have h:¬(Sum.inl a:Key)=Sum.inl b:=fun q=>e (Sum.inl.inj q)
  rw [ke h]
  exact (beq_eq_false_iff_ne.mpr e).symm
theorem z25 (a b:Str):decide ((Sum.inr a:Key)=Sum.inr b)=decide (a=b):=by
 by_cases e:a=b
 ·subst e;simp
 ·have h:¬(Sum.inr a:Key)=Sum.inr b:=fun q=>e (Sum.inr.inj q)
  rw [ke h,ke e]
theorem z27 (a:Int) (b:Str):decide ((Sum.inl a:Key)=Sum.inr b)=false:=ke (fun q=>nomatch q)
theorem z26 (a:Str) (b:Int):decide ((Sum.inr a:Key)=Sum.inl b)=false:=ke (fun q=>nomatch q)
noncomputable def zw (prog:Program) (w:World):PySem.KeyKind prog w Key where
 is:=Qk
 hash:=keyH w
 inj:=fun v a b ha hb=>by
  rcases zu ha with ⟨i,t,rfl,rfl⟩ | ⟨x,t,rfl,rfl⟩
  ·rcases zu hb with ⟨j,u,rfl,e⟩ | ⟨y,u,rfl,e⟩
   ·injection e with e1 _;rw [e1]
   ·exact nomatch e
  ·rcases zu hb with ⟨j,u,rfl,e⟩ | ⟨y,u,rfl,e⟩
   ·exact nomatch e
   ·injection e with e1 _;rw [e1]
 byValue:=fun k v h=>by
  rcases zu h with ⟨i,t,rfl,rfl⟩ | ⟨x,t,rfl,rfl⟩ <;> rfl
 pyHash:=fun hv h=>by
  rcases zu hv with ⟨i,t,rfl,rfl⟩ | ⟨x,t,rfl,rfl⟩
  ·exact wpAny_pyHash_int h
  ·exact wpAny_pyHash_str h
 eqBool:=fun hu hv h=>by
  rcases zu hu with ⟨i,t,rfl,rfl⟩ | ⟨x,t,rfl,rfl⟩
  ·rcases zu hv with ⟨j,u,rfl,rfl⟩ | ⟨y,u,rfl,rfl⟩
   ·rw [z28] at h;exact wpAny_eqBool_int h
   ·rw [z27] at h;exact SeqAt.EqAt.int_str i t y u _ _ _ _ h
  ·rcases zu hv with ⟨j,u,rfl,rfl⟩ | ⟨y,u,rfl,rfl⟩
   ·rw [z26] at h;exact SeqAt.EqAt.str_int x t j u _ _ _ _ h
   ·rw [z25] at h;exact wpAny_eqBool_str h
 «strs»:=fun k x t v h=>by
  rcases zu h with ⟨i,u,rfl,e⟩ | ⟨y,u,rfl,e⟩
  ·exact nomatch e
  ·injection e with e1 _
   subst e1
   cases v <;> rfl
theorem ZA (prog:Program) (w:World) (i:Int) (t:Tok):(zw prog w).is (.inl i) (.int i t)=true:=Jb i t
theorem Zz (prog:Program) (w:World) (x:Str) (t:Tok):(zw prog w).is (.inr x) (.str x t)=true:=Ja x t
end L2
namespace L2
open PySem PySem.Spec PyProof.Rows
inductive V where
 | non | bl (b:Bool) | int (i:Int) | str (x:Str) | byt (b:Array UInt8) | flt (b:UInt64) | ref (a:Addr) | ty (n:String)
 deriving DecidableEq
def RelV:V→Value→Prop
 | .non,u=>u=Value.none
 | .bl b,u=>u=Value.bool b
 | .int i,u=>∃t,u=Value.int i t
 | .str x,u=>∃t,u=Value.str x t
 | .byt b,u=>∃t,u=Value.bytes b t
 | .flt b,u=>∃t,u=Value.float b t
 | .ref a,u=>u=Value.ref a
 | .ty n,u=>u=Value.type n
abbrev Vals:List V→List Value→Prop:=Paired RelV
theorem Vals.length {xs:List V} {us:List Value} (r:Vals xs us):xs.length=us.length:=Paired.length r
theorem Vals.get:∀{xs:List V} {us:List Value} {i:Nat} {x:V},Vals xs us→xs[i]?=some x→∃u,us[i]?=some u∧RelV x u
 | _,_,_,_,.nil,e=>by simp at e
 | _,_,0,_,.cons r _,e=>by simp at e;subst e;exact ⟨_,rfl,r⟩
 | _,_,i+1,x,.cons _ t,e=>by
  obtain ⟨u,h1,h2⟩:=Vals.get (i:=i) (x:=x) t (by simpa using e)
  exact ⟨u,by simpa using h1,h2⟩
theorem Vals.set {x:V} {u:Value} (r:RelV x u):∀{xs:List V} {us:List Value} (i:Nat),Vals xs us→Vals (xs.set i x) (us.set i u)
 | _,_,_,.nil=>.nil
 | _,_,0,.cons _ t=>.cons r t
 | _,_,i+1,.cons q t=>.cons q (Vals.set r i t)
theorem Vals.append:∀{xs ys:List V} {us ws:List Value},Vals xs us→Vals ys ws→Vals (xs++ys) (us++ws)
 | _,_,_,_,.nil,s=>s
 | _,_,_,_,.cons r t,s=>.cons r (Vals.append t s)
theorem Vals.take:∀{xs:List V} {us:List Value} (n:Nat),Vals xs us→Vals (xs.take n) (us.take n)
 | _,_,0,_=>.nil
 | _,_,_+1,.nil=>.nil
 | _,_,n+1,.cons r t=>.cons r (Vals.take n t)
theorem Vals.drop:∀{xs:List V} {us:List Value} (n:Nat),Vals xs us→Vals (xs.drop n) (us.drop n)
 | _,_,0,r=>r
 | _,_,_+1,.nil=>.nil
 | _,_,n+1,.cons _ t=>Vals.drop n t
def RelO:Option V→Option Value→Prop
 | some v,some u=>RelV v u
 | none,none=>True
 | _,_=>False
def KV {κ:Type}:List (κ × V)→List (κ × Value)→Prop:=Paired fun (p:κ × V) (q:κ × Value)=>p.1=q.1∧RelV p.2 q.2
noncomputable def kV:Key→V
 | .inl i=>.int i
 | .inr x=>.str x
inductive HO where
 | lst (xs:List V)
 | tup (xs:List V)
 | dK (kvs:List (Key × V)) | dT (kvs:List (List Key × V))
 | set (S:Int→Bool) (n:Nat)
 | ins (C dx:Addr) (fs:List (Str × V))
 | own (x:Addr)
 | xd (fs:List (Str × V))
 | met (f x:Addr)
 | rng (lo hi:Int)
 | frz (o:Obj) (u:HO)
 | tbl (ps:Array Value)
 | ext (φ:Heap→Prop)
abbrev Hp:=Addr→Option HO
noncomputable def upd (H:Hp) (a:Addr) (o:HO):Hp:=fun b=>if b=a then some o else H b
theorem z4 {H:Hp} {a:Addr} {o:HO}:upd H a o a=some o:=by unfold upd;rw [kr rfl]
theorem zf {H:Hp} {a b:Addr} {o:HO} (h:b≠a):upd H a o b=H b:=by unfold upd;rw [kq h]
theorem Zu {H:Hp} {a:Addr} {o u:HO}:upd (upd H a o) a u=upd H a u:=by
 funext b;unfold upd;split <;> rfl
theorem Z7 {H:Hp} {a b:Addr} {o u:HO} (h:H a=some o) (h':H b=some u) (d:o≠u):a≠b:=by
 intro e;subst e;rw [h] at h';exact d (kt h')
theorem zc {H:Hp} {a b:Addr} {o:HO} (h:H a=some o) (h':H b=none):a≠b:=by
 intro e;subst e;rw [h] at h';cases h'
section
variable (P:Program) (w:World)
def zv (H:Hp) (h:Heap) (a:Addr):HO→Prop
 | .lst xs=>xs.length≤sizeLine∧∃(its:List Value) (n:Nat),Vals xs its∧h.get? a=some { cls:=.type "list",data:=.seq its.toArray n }
 | .tup xs=>xs.length≤sizeLine∧∃its:List Value,Vals xs its∧IsTup h a its.toArray
 | .dK kvs=>kvs.length≤sizeLine∧(a == sysModules)=false∧∃vs,KV kvs vs∧h.DictOf (zw P w) a vs
 | .dT kvs=>kvs.length≤sizeLine∧(a == sysModules)=false∧∃xs:List (List Key × Addr × Value),
   Paired (fun (p:List Key × V) (q:List Key × Addr × Value)=>p.1=q.1∧H q.2.1=some (.tup (p.1.map kV))∧RelV p.2 q.2.2) kvs xs∧
   ∃o es ep,h.get? a=some o∧o.ExactDict∧o.data=.dict es ep∧es.toList=xs.map (entryOfKey (tupleKind (zw P w)))∧(xs.map (·.1)).Nodup
 | .set S n=>h.SetOf (intKind P w) a S n
 | .ins C dx fs=>H dx=some (.own a)∧fs.length≤1000∧dx≠a∧h.get? a=some (PySem.W.instObj C dx)∧
   ∃mA,h.Ns1 dx mA∧(∀f,RelO (fs.lookup f) (mA f))∧PySem.Within mA (fs.map (·.1))
 | .own _=>∃o,h.get? a=some o
 | .xd fs=>∃mA,h.Ns1 a mA∧∀f,RelO (fs.lookup f) (mA f)
 | .rng lo hi=>∃t u v,h.get? a=some { cls:=.type "range",data:=.fields #[.int lo t,.int hi u,.int 1 v] }
 | .frz o u=>h.get? a=some o∧zv H h a u
 | .tbl ps=>h.get? a=some { cls:=.none,data:=.fields ps }
 | .met f x=>h.get? a=some (PySem.W.methodObj (.ref f) (.ref x))
 | .ext φ=>φ h∧(∃o,h.get? a=some o)∧∀h1 h2:Heap,φ h1→(∀o,h1.get? a=some o→h2.get? a=some o)→φ h2
def HOk (H:Hp) (h:Heap):Prop:=∀a o,H a=some o→zv P w H h a o
end
section
variable {P:Program} {w:World} {H H':Hp} {h h':Heap} {a:Addr} {o:HO}
theorem zv.lt (x:zv P w H h a o):a < h.objs.size:=by
 cases o with
 | lst xs=>obtain ⟨_,_,_,_,e⟩:=x;exact Heap.lt_size e
 | tup xs=>obtain ⟨_,_,_,p⟩:=x;exact p.lt
 | dK kvs=>obtain ⟨_,_,_,_,o,_,_,e,_⟩:=x;exact Heap.lt_size e
 | dT kvs=>obtain ⟨_,_,_,_,o,_,_,e,_⟩:=x;exact Heap.lt_size e
 | set S n=>obtain ⟨o,_,_,_,e,_⟩:=x;exact Heap.lt_size e
 | ins C dx fs=>obtain ⟨_,_,_,e,_⟩:=x;exact Heap.lt_size e
 | own y=>obtain ⟨_,e⟩:=x;exact Heap.lt_size e
 | xd fs=>obtain ⟨_,⟨_,_,_,e,_⟩,_⟩:=x;exact Heap.lt_size e
 | rng lo hi=>obtain ⟨_,_,_,e⟩:=x;exact Heap.lt_size e
 | frz ob u=>obtain ⟨e,_⟩:=x;exact Heap.lt_size e
 | tbl ps=>exact Heap.lt_size (show h.get? a=some _ from x)
 | met f y=>exact Heap.lt_size (show h.get? a=some _ from x)
 | ext φ=>obtain ⟨_,⟨_,e⟩,_⟩:=x;exact Heap.lt_size e
theorem Paired.mapP {α β:Type} {F G:α→β→Prop}:∀{l₁:List α} {l₂:List β},Paired F l₁ l₂→(∀a b,F a b→G a b)→Paired G l₁ l₂
 | _,_,.nil,_=>.nil
 | _,_,.cons r t,f=>.cons (f _ _ r) (Paired.mapP t f)
theorem zv.stay (x:zv P w H h a o) (k:∀b u,(b=a∨H b=some (.own a))→h.get? b=some u→h'.get? b=some u)
  (ho:∀b,H b=some (.own a)→H' b=some (.own a)) (ht:∀b xs,H b=some (.tup xs)→H' b=some (.tup xs)):zv P w H' h' a o:=by
 induction o with
 | lst xs=>obtain ⟨z,its,n,r,e⟩:=x;exact ⟨z,its,n,r,k _ _ (.inl rfl) e⟩
 | tup xs=>obtain ⟨z,its,r,ob,e,c⟩:=x;exact ⟨z,its,r,ob,k _ _ (.inl rfl) e,c⟩
 | dK kvs=>obtain ⟨z,y,vs,r,ob,es,ep,e,c⟩:=x;exact ⟨z,y,vs,r,ob,es,ep,k _ _ (.inl rfl) e,c⟩
 | dT kvs=>
  obtain ⟨z,y,xs,r,ob,es,ep,e,c⟩:=x
  exact ⟨z,y,xs,Paired.mapP r fun p q z=>⟨z.1,ht _ _ z.2.1,z.2.2⟩,ob,es,ep,k _ _ (.inl rfl) e,c⟩
 | set S n=>obtain ⟨ob,es,ep,t,e,c⟩:=x;exact ⟨ob,es,ep,t,k _ _ (.inl rfl) e,c⟩
 | ins C dx fs=>
  obtain ⟨d,z,ne,e,mA,⟨od,es,ep,e2,c⟩,r⟩:=x
  exact ⟨ho _ d,z,ne,k _ _ (.inl rfl) e,mA,⟨od,es,ep,k _ _ (.inr d) e2,c⟩,r⟩
 | own y=>obtain ⟨ob,e⟩:=x;exact ⟨ob,k _ _ (.inl rfl) e⟩
 | xd fs=>obtain ⟨mA,⟨od,es,ep,e,c⟩,r⟩:=x;exact ⟨mA,⟨od,es,ep,k _ _ (.inl rfl) e,c⟩,r⟩
 | rng lo hi=>obtain ⟨t,u,v,e⟩:=x;exact ⟨t,u,v,k _ _ (.inl rfl) e⟩
 | frz ob u ih=>obtain ⟨e,q⟩:=x;exact ⟨k _ _ (.inl rfl) e,ih q⟩
 | tbl ps=>
  have e:h.get? a=some { cls:=.none,data:=.fields ps }:=x
  show h'.get? a=some { cls:=.none,data:=.fields ps }
  exact k a _ (.inl rfl) e
 | met f y=>
  have e:h.get? a=some (PySem.W.methodObj (.ref f) (.ref y)):=x
  show h'.get? a=some (PySem.W.methodObj (.ref f) (.ref y))
  exact k a _ (.inl rfl) e
 | ext φ=>obtain ⟨p,⟨o,e⟩,st⟩:=x;exact ⟨st _ _ p fun o q=>k _ _ (.inl rfl) q,⟨o,k _ _ (.inl rfl) e⟩,st⟩
theorem HOk.lt (x:HOk P w H h) (e:H a=some o):a < h.objs.size:=(x a o e).lt
theorem HOk.fresh (x:HOk P w H h) (e:h.objs.size≤a):H a=none:=by
 cases q:H a with
 | none=>rfl
 | some u=>exact absurd (kE (x.lt q) e) (Nat.lt_irrefl _)
theorem HOk.kept (x:HOk P w H h) (k:∀b u,h.get? b=some u→h'.get? b=some u):HOk P w H h':=fun a o e=>
 (x a o e).stay (fun b u _ q=>k b u q) (fun _ q=>q) fun _ _ q=>q
theorem HOk.laid (x:HOk P w H h) (k:∀b u,h.get? b=some u→h'.get? b=some u) (hp:h.objs.size≤a) (new:zv P w (upd H a o) h' a o):HOk P w (upd H a o) h':=fun b u e=>by
 have hn:=x.fresh hp
 by_cases hb:b=a
 ·subst hb;rw [z4] at e;cases e;exact new
 ·rw [zf hb] at e
  exact (x b u e).stay (fun c v _ q=>k c v q) (fun c q=>by rw [zf (zc q hn)];exact q) fun c xs q=>by rw [zf (zc q hn)];exact q
end
def Rd (H:Hp) (a:Addr) (u:HO):Prop:=H a=some u∨∃o,H a=some (.frz o u)
theorem Rd.ok {P:Program} {w:World} {H:Hp} {h:Heap} {a:Addr} {u:HO} (r:Rd H a u) (x:HOk P w H h):zv P w H h a u:=by
 rcases r with r | ⟨o,r⟩
 ·exact x a u r
 ·obtain ⟨_,q⟩:=x a _ r
  exact q
def Mut:Option HO→Prop
 | some (.lst _)=>True
 | some (.dK _)=>True
 | some (.dT _)=>True
 | some (.set _ _)=>True
 | some (.ins _ _ _)=>True
 | some (.ext _)=>True
 | _=>False
section
variable {P:Program} {w:World} {H:Hp} {h h':Heap} {x e:Addr} {o':HO}
theorem HOk.write (ok:HOk P w H h) (mu:Mut (H x)) (he:e=x∨H e=some (.own x)) (k:∀b u,b≠e→h.get? b=some u→h'.get? b=some u) (heo:∃u,h'.get? e=some u)
  (new:zv P w (upd H x o') h' x o'):HOk P w (upd H x o') h':=fun b u q=>by
 have nown:∀c y,H c=some (.own y)→c≠x:=fun c y r z=>by subst z;rw [r] at mu;exact mu
 have ntup:∀c xs,H c=some (.tup xs)→c≠x:=fun c xs r z=>by subst z;rw [r] at mu;exact mu
 by_cases hb:b=x
 ·subst hb;rw [z4] at q;cases q;exact new
 ·rw [zf hb] at q
  by_cases hbe:b=e
  ·have q':H b=some (.own x):=by
    rcases he with z | z
    ·exact absurd (hbe.trans z) hb
    ·rw [hbe];exact z
   rw [q] at q';cases q'
   obtain ⟨v,hv⟩:=heo
   exact ⟨v,by rw [hbe];exact hv⟩
  ·refine (ok b u q).stay (fun c v hc r=>k c v ?_ r) (fun c r=>by rw [zf (nown c b r)];exact r) fun c xs r=>by rw [zf (ntup c xs r)];exact r
   rcases hc with rfl | hc
   ·exact hbe
   ·rintro rfl
    rcases he with z | z
    ·exact nown c b hc z
    ·rw [hc] at z;cases z;exact hb rfl
end
structure Un (fs ex:List Addr) (H H':Hp) (h h':Heap):Prop where
 keep:∀b o,h.get? b=some o→H b=none→b∉fs→b∉ex→h'.get? b=some o
 slot:∀b o,h.get? b=some o→H b=none→b∈fs→b∉ex→∃sl,h'.get? b=some { o with slots:=sl }
 free:∀b o,h.get? b=some o→H b=none→b∉ex→H' b=none
 there:∀b o,h.get? b=some o→b∉ex→∃o',h'.get? b=some o'
 tups:∀b xs,H b=some (.tup xs)→H' b=some (.tup xs)
 frzs:∀b o u,H b=some (.frz o u)→H' b=some (.frz o u)
 tbls:∀b ps,H b=some (.tbl ps)→∃more,H' b=some (.tbl (ps++more))
section
variable {fs fs' ex ex':List Addr} {H H1 H2:Hp} {h h1 h2 h':Heap} {a x e:Addr} {o:HO}
theorem Un.any (u:Un fs ex H H1 h h1) {b:Addr} {ob:Obj} (q:h.get? b=some ob) (n:H b=none) (hx:b∉ex):∃sl,h1.get? b=some { ob with slots:=sl }:=by
 by_cases hb:b∈fs
 ·exact u.slot b ob q n hb hx
 ·exact ⟨ob.slots,u.keep b ob q n hb hx⟩
theorem Un.kept (k:∀b u,h.get? b=some u→h'.get? b=some u):Un fs ex H H h h':=
 ⟨fun b ob q _ _ _=>k b ob q,fun b ob q _ _ _=>⟨ob.slots,k b ob q⟩,fun _ _ _ n _=>n,fun b ob q _=>⟨ob,k b ob q⟩,fun _ _ q=>q,fun _ _ _ q=>q,fun _ ps q=>⟨#[],by rw [q];simp⟩⟩
theorem Un.refl:Un fs ex H H h h:=Un.kept fun _ _ q=>q
theorem Un.laid (k:∀b u,h.get? b=some u→h'.get? b=some u) (hp:h.objs.size≤a) (hn:H a=none):Un fs ex H (upd H a o) h h' where
 keep:=fun b u q _ _ _=>k b u q
 slot:=fun b u q _ _ _=>⟨u.slots,k b u q⟩
 free:=fun b u q n _=>by rw [zf (Nat.ne_of_lt (kE (Heap.lt_size q) hp))];exact n
 there:=fun b u q _=>⟨u,k b u q⟩
 tups:=fun b xs q=>by rw [zf (zc q hn)];exact q
 frzs:=fun b u xs q=>by rw [zf (zc q hn)];exact q
 tbls:=fun b ps q=>⟨#[],by rw [zf (zc q hn),q];simp⟩
theorem Un.write (mu:Mut (H x)) (he:e=x∨H e=some (.own x)) (k:∀b u,b≠e→h.get? b=some u→h'.get? b=some u) (heo:∃u,h'.get? e=some u):Un fs ex H (upd H x o) h h':=by
 have hx:∀b,H b=none→b≠x:=fun b n z=>by subst z;rw [n] at mu;exact mu
 have hb:∀b,H b=none→b≠e:=fun b n z=>by
  subst z
  rcases he with r | r
  ·exact hx b n r
  ·rw [n] at r;cases r
 have hm:∀b u,H b=some u→¬Mut (some u)→b≠x:=fun b u q nm z=>by subst z;rw [q] at mu;exact nm mu
 refine ⟨fun b u q n _ _=>k b u (hb b n) q,fun b u q n _ _=>⟨u.slots,k b u (hb b n) q⟩,fun b u q n _=>by rw [zf (hx b n)];exact n,fun b u q _=>?_,
  fun b xs q=>by rw [zf (hm b _ q fun z=>z)];exact q,fun b u xs q=>by rw [zf (hm b _ q fun z=>z)];exact q,fun b ps q=>⟨#[],by rw [zf (hm b _ q fun z=>z),q];simp⟩⟩
 by_cases hbe:b=e
 ·subst hbe;exact heo
 ·exact ⟨u,k b u hbe q⟩
end
noncomputable def trk (h:Heap) (H:Hp):List Addr:=(List.range h.objs.size).filter fun a=>(H a).isSome
noncomputable def hidT (h:Heap) (H:Hp):Heap:=PySem.W.hideAll h (trk h H)
theorem Jh (h:Heap) (H:Hp):(hidT h H).objs.size=h.objs.size:=PySem.W.hideAll_size _ _
theorem z01 {h:Heap} {H:Hp} {b:Addr} {o:Obj} (e:h.get? b=some o) (n:H b=none):(hidT h H).get? b=some o:=
 PySem.W.hideAll_get _ e fun hm=>by
  have q:(H b).isSome=true:=(List.mem_filter.mp hm).2
  rw [n] at q;simp at q
theorem z13 {h:Heap} {H:Hp} {b:Addr} {o:Obj} (e:(hidT h H).get? b=some o):h.get? b=some o∧H b=none:=by
 have e':h.get? b=some o:=PySem.W.of_hideAll (trk h H) e
 refine ⟨e',?_⟩
 cases q:H b with
 | none=>rfl
 | some x=>
  have hm:b∈trk h H:=List.mem_filter.mpr ⟨List.mem_range.mpr (Heap.lt_size e'),by simp [q]⟩
  have z:(hidT h H).get? b=none:=PySem.W.hideAll_none (trk h H) hm
  rw [z] at e;cases e
end L2
namespace L2
open PySem PySem.Spec PyProof.Rows
structure Mod (K:ko) (mg:Str→Option Value) (base:Heap):Prop where
 kin:K.In base
 glob:base.Ns mainGlobals mg
 blt:∃mb,base.Ns builtinsNs mb∧∀x:Str,x≠"__name__"→mb x=bootBuiltins x
 nolimit:base.NoLimit
structure Cx where
 prog:Program
 w:World
 K:ko
 mg:Str→Option Value
 base:Heap
 A:Around
 N:List Str
 s₀:Shared
 H₀:Hp
 env:Env
 outer:List Env
 stack:List Env
 ex:List Addr
 fn:Str→Bool
 calm:Bool
 pn:List (Addr × Obj)
 xe:Value→Shared→Prop
noncomputable def frs (l:List Env):List Addr:=l.filterMap (·.frame)
noncomputable abbrev Cx.fs (X:Cx):List Addr:=frs X.outer
def Vis (sc:Scope) (x:Str):Prop:=sc.names.lookup x=some .local∨sc.names.lookup x=some .cell∨sc.names.lookup x=some .free
def Loc (sc:Scope) (x:Str):Prop:=sc.names.lookup x=some .local∨sc.names.lookup x=some .cell
def Look (env:Env) (h:Heap) (m:Str→Option Value) (x:Str) (u:Value):Prop:=
 (env.kindOf x=some .local∧m x=some u)∨((env.kindOf x=some .cell∨env.kindOf x=some .free)∧∃c,env.cells.lookup x=some c∧h.IsCell c (some u))
structure Cx.Ok (X:Cx):Prop where
 mod:Mod X.K X.mg X.base
 kind:X.env.scope.kind=.function
 glob:X.env.globals=mainGlobals
 blt:X.env.builtins=builtinsNs
 above:X.s₀.heap.objs.size≤X.env.locals
 inj:∀x y c,X.env.cells.lookup x=some c→X.env.cells.lookup y=some c→x=y
 has:∀x,(X.env.kindOf x=some .cell∨X.env.kindOf x=some .free)→∃c,X.env.cells.lookup x=some c
 cab:∀x c,X.fn x=true→X.env.cells.lookup x=some c→X.s₀.heap.objs.size≤c
 hd:X.calm=true→X.A.handled=none
 frames:X.A.frames=some X.stack
 stk:X.stack=X.outer∨(X.stack=X.env :: X.outer∧X.env.frame=some X.env.locals)
 exf:∀b∈X.ex,b≠X.env.locals∧∀x c,X.env.cells.lookup x=some c→c≠b
 bs:∀b o,X.base.get? b=some o→X.s₀.heap.get? b=some o∧X.H₀ b=none
 bsz:X.base.objs.size≤X.s₀.heap.objs.size
 noex:∀b o,X.base.get? b=some o→b∉X.ex
 exfs:∀b∈X.ex,b∉X.fs
 funs:X.s₀.heap.FunFrames X.base X.outer
 frf:∀b∈X.fs,X.H₀ b=none
structure Inv (X:Cx) (pins:List (Addr × Obj)) (σ:List (Option V)) (H:Hp) (s:Shared):Prop where
 ok:X.Ok
 os:s.os=X.s₀.os
 bare:AllBare s.gens
 base:Un X.fs X.ex X.H₀ H X.s₀.heap s.heap
 loc:∃m,s.heap.Ns X.env.locals m∧∀(i:Nat) (x:Str) (v:V),X.N[i]?=some x→σ[i]?=some (some v)→Vis X.env.scope x→∃u,RelV v u∧Look X.env s.heap m x u
 cell:∀x c,X.env.cells.lookup x=some c→∃v,s.heap.IsCell c v
 free:H X.env.locals=none
 freeC:∀x c,X.env.cells.lookup x=some c→H c=none
 pin:∀p∈X.pn++pins,s.heap.get? p.1=some p.2∧H p.1=none∧p.1≠X.env.locals∧p.1∉X.fs∧∀v,p.2.data≠.cell v
 hok:HOk X.prog X.w H s.heap
 len:σ.length=X.N.length
section
variable {X:Cx} {pins:List (Addr × Obj)} {σ:List (Option V)} {H H':Hp} {s:Shared} {h':Heap}
theorem Cx.Ok.nofr (ok:X.Ok) {b:Addr} {o:Obj} (e:X.base.get? b=some o):b∉X.fs:=fun hb=>by
 have:=(ok.funs.mem hb).1
 rw [e] at this;cases this
theorem Inv.bs (I:Inv X pins σ H s):∀b o,X.base.get? b=some o→s.heap.get? b=some o∧H b=none:=fun b o e=>
 ⟨I.base.keep b o (I.ok.bs b o e).1 (I.ok.bs b o e).2 (I.ok.nofr e) (I.ok.noex b o e),I.base.free b o (I.ok.bs b o e).1 (I.ok.bs b o e).2 (I.ok.noex b o e)⟩
theorem Inv.bk (I:Inv X pins σ H s):∀b o,X.base.get? b=some o→s.heap.get? b=some o:=fun b o e=>(I.bs b o e).1
theorem Inv.mod (I:Inv X pins σ H s):Mod X.K X.mg X.base:=I.ok.mod
theorem Inv.kIn (I:Inv X pins σ H s):X.K.In s.heap:=I.ok.mod.kin.keeps I.bk
theorem Inv.lt (I:Inv X pins σ H s):X.env.locals < s.heap.objs.size:=let ⟨_,hn,_⟩:=I.loc;hn.lt
theorem Inv.sz (I:Inv X pins σ H s):X.s₀.heap.objs.size≤s.heap.objs.size:=km I.ok.above (Nat.le_of_lt I.lt)
theorem Inv.nofs (I:Inv X pins σ H s) {a:Addr} (h:s.heap.objs.size≤a):a∉X.fs:=fun hb=>by
 obtain ⟨_,o,ho,_⟩:=I.ok.funs.mem hb
 exact absurd (kE (Heap.lt_size ho) (km I.sz h)) (Nat.lt_irrefl _)
theorem Inv.cne (I:Inv X pins σ H s):∀x c,X.env.cells.lookup x=some c→c≠X.env.locals:=fun x c e z=>by
 obtain ⟨v,o,ho,hd⟩:=I.cell x c e
 obtain ⟨m,⟨o',es,ep,ho',hd',_⟩,_⟩:=I.loc
 rw [z,ho'] at ho;cases ho;rw [hd'] at hd;cases hd
theorem Inv.funs (I:Inv X pins σ H s):s.heap.FunFrames X.base X.outer:=by
 have all:∀(l:List Env),(∀b∈frs l,b∈X.fs)→X.s₀.heap.FunFrames X.base l→s.heap.FunFrames X.base l:=by
  intro l
  induction l with
  | nil=>intro _ _;trivial
  | cons env r ih=>
   intro hs hl
   obtain ⟨hk,⟨L,o,hf,hn,ho,hd⟩,hr⟩:=hl
   have hL:L∈X.fs:=hs L (by unfold frs;rw [List.filterMap_cons,hf];exact kI)
   obtain ⟨sl,e⟩:=I.base.slot L o ho (I.ok.frf L hL) hL fun z=>I.ok.exfs L z hL
   exact ⟨hk,⟨L,_,hf,hn,e,hd⟩,ih (fun b hb=>hs b (by unfold frs;rw [List.filterMap_cons,hf];exact kJ _ hb)) hr⟩
 exact all X.outer (fun _ hb=>hb) I.ok.funs
theorem Inv.stack (I:Inv X pins σ H s):s.heap.FunFrames X.base X.stack:=by
 rcases I.ok.stk with e | ⟨e,hf⟩
 ·rw [e];exact I.funs
 ·rw [e]
  obtain ⟨m,hn,_⟩:=I.loc
  refine .cons (by rw [I.ok.kind];decide) hf hn ?_ I.funs
  exact Heap.get?_none_of_le (km I.ok.bsz I.ok.above)
theorem Inv.stkSub (I:Inv X pins σ H s):∀b∈frs X.stack,b∈X.env.locals :: X.fs:=fun b hb=>by
 rcases I.ok.stk with e | ⟨e,hf⟩
 ·rw [e] at hb;exact kJ _ hb
 ·rw [e] at hb
  unfold frs at hb
  rw [List.filterMap_cons,hf] at hb
  exact hb
theorem Inv.stkFree (I:Inv X pins σ H s):∀b∈frs X.stack,H b=none:=fun b hb=>by
 rcases kw.mp (I.stkSub b hb) with e | hb
 ·rw [e];exact I.free
 ·obtain ⟨_,o,ho,_⟩:=I.ok.funs.mem hb
  exact I.base.free b o ho (I.ok.frf b hb) fun z=>I.ok.exfs b z hb
theorem Inv.step {g':Array GenState} {t':Nat} {d':Drawn} {ch:List Addr} (I:Inv X pins σ H s)
  (hch:∀b∈ch,(b∈X.ex∨X.s₀.heap.objs.size≤b)∧b≠X.env.locals∧(∀x c,X.env.cells.lookup x=some c→c≠b)∧∀p∈X.pn++pins,p.1≠b)
  (keep:∀b o,b≠X.env.locals→b∉X.fs→b∉ch→s.heap.get? b=some o→H b=none→h'.get? b=some o)
  (slot:∀b o,b≠X.env.locals→b∈X.fs→b∉ch→s.heap.get? b=some o→H b=none→∃sl,h'.get? b=some { o with slots:=sl }) (free:∀b o,b∉ch→s.heap.get? b=some o→H b=none→H' b=none)
  (there:∀b o,b∉ch→s.heap.get? b=some o→∃o',h'.get? b=some o')
  (tups:∀b xs,H b=some (.tup xs)→H' b=some (.tup xs)) (frzs:∀b o u,H b=some (.frz o u)→H' b=some (.frz o u)) (tbls:∀b ps,H b=some (.tbl ps)→∃more,H' b=some (.tbl (ps++more)))
  (ns:∀m,s.heap.Ns X.env.locals m→h'.Ns X.env.locals m) (hok:HOk X.prog X.w H' h') (hg:AllBare g'):
  Inv X pins σ H' { s with heap:=h',gens:=g',drawn:=d',toks:=t' }:=by
 have neL:∀b o,X.s₀.heap.get? b=some o→b≠X.env.locals:=fun b o e=>Nat.ne_of_lt (kE (Heap.lt_size e) I.ok.above)
 have neC:∀b o,X.s₀.heap.get? b=some o→b∉X.ex→b∉ch:=fun b o e hx hb=>by
  rcases (hch b hb).1 with z | z
  ·exact hx z
  ·exact absurd (kE (Heap.lt_size e) z) (Nat.lt_irrefl _)
 have cellK:∀x c,X.env.cells.lookup x=some c→∀v,s.heap.IsCell c v→h'.IsCell c v:=fun x c e v ⟨o,ho,hd⟩=>by
  have nch:c∉ch:=fun z=>(hch c z).2.2.1 x c e rfl
  by_cases hc:c∈X.fs
  ·obtain ⟨sl,q⟩:=slot c o (I.cne x c e) hc nch ho (I.freeC x c e)
   exact ⟨_,q,hd⟩
  ·exact ⟨o,keep c o (I.cne x c e) hc nch ho (I.freeC x c e),hd⟩
 refine ⟨I.ok,I.os,hg,⟨fun b o e n hb hx=>?_,fun b o e n hb hx=>?_,fun b o e n hx=>?_,fun b o e hx=>?_,fun b xs e=>tups b xs (I.base.tups b xs e),fun b o xs e=>frzs b o xs (I.base.frzs b o xs e),fun b ps e=>?_⟩,?_,fun x c e=>?_,?_,fun x c e=>?_,fun p hp=>?_,hok,I.len⟩
 ·exact keep b o (neL b o e) hb (neC b o e hx) (I.base.keep b o e n hb hx) (I.base.free b o e n hx)
 ·obtain ⟨sl,e1⟩:=I.base.slot b o e n hb hx
  obtain ⟨sl',e2⟩:=slot b _ (neL b o e) hb (neC b o e hx) e1 (I.base.free b o e n hx)
  exact ⟨sl',e2⟩
 ·obtain ⟨o',e1⟩:=I.base.there b o e hx
  exact free b o' (neC b o e hx) e1 (I.base.free b o e n hx)
 ·obtain ⟨o',e1⟩:=I.base.there b o e hx
  exact there b o' (neC b o e hx) e1
 ·obtain ⟨m1,e1⟩:=I.base.tbls b ps e
  obtain ⟨m2,e2⟩:=tbls b _ e1
  exact ⟨m1++m2,by rw [e2,Array.append_assoc]⟩
 ·obtain ⟨m,hn,hl⟩:=I.loc
  refine ⟨m,ns m hn,fun i x v e1 e2 e3=>?_⟩
  obtain ⟨u,r,l⟩:=hl i x v e1 e2 e3
  refine ⟨u,r,?_⟩
  rcases l with l | ⟨k,c,e,z⟩
  ·exact .inl l
  ·exact .inr ⟨k,c,e,cellK x c e _ z⟩
 ·obtain ⟨v,z⟩:=I.cell x c e
  exact ⟨v,cellK x c e v z⟩
 ·obtain ⟨m,⟨o,_,_,ho,_⟩,_⟩:=I.loc
  exact free _ o (fun z=>(hch _ z).2.1 rfl) ho I.free
 ·obtain ⟨v,o,ho,hd⟩:=I.cell x c e
  exact free c o (fun z=>(hch c z).2.2.1 x c e rfl) ho (I.freeC x c e)
 ·obtain ⟨e,n,ne,nf,d⟩:=I.pin p hp
  have nch:p.1∉ch:=fun z=>(hch p.1 z).2.2.2 p hp rfl
  exact ⟨keep p.1 p.2 ne nf nch e n,free p.1 p.2 nch e n,ne,nf,d⟩
theorem Inv.un {t':Nat} (I:Inv X pins σ H s) (u:Un X.fs [] H H' s.heap h') (hok:HOk X.prog X.w H' h'):Inv X pins σ H' { s with heap:=h',toks:=t' }:=by
 obtain ⟨m,⟨o,es,ep,ho,r⟩,_⟩:=id I.loc
 obtain ⟨sl,hL⟩:=u.any ho I.free (by simp)
 exact I.step (g':=s.gens) (d':=s.drawn) (ch:=[]) (fun _ z=>nomatch z) (fun b o _ hb _ e n=>u.keep b o e n hb (by simp)) (fun b o _ hb _ e n=>u.slot b o e n hb (by simp)) (fun b o _ e n=>u.free b o e n (by simp)) (fun b o _ e=>u.there b o e (by simp)) u.tups u.frzs u.tbls (fun m' hm=>by
  obtain ⟨o',es',ep',ho',r'⟩:=hm
  rw [ho] at ho';cases ho'
  exact ⟨_,es',ep',hL,r'⟩) hok I.bare
theorem Inv.call {g':Array GenState} {t':Nat} {d':Drawn} {ch:List Addr} (I:Inv X pins σ H s) (u:Un (frs X.stack) ch H H' s.heap h') (hok:HOk X.prog X.w H' h') (hg:AllBare g')
  (hch:∀b∈ch,(b∈X.ex∨X.s₀.heap.objs.size≤b)∧b≠X.env.locals∧(∀x c,X.env.cells.lookup x=some c→c≠b)∧∀p∈X.pn++pins,p.1≠b):
  Inv X pins σ H' { s with heap:=h',gens:=g',drawn:=d',toks:=t' }:=by
 obtain ⟨m,⟨o,es,ep,ho,r⟩,_⟩:=id I.loc
 obtain ⟨sl,hL⟩:=u.any ho I.free fun z=>(hch _ z).2.1 rfl
 exact I.step (ch:=ch) hch (fun b o hL hb hc e n=>u.keep b o e n (fun z=>(kw.mp (I.stkSub b z)).elim hL hb) hc) (fun b o _ _ hc e n=>u.any e n hc) (fun b o hc e n=>u.free b o e n hc) (fun b o hc e=>u.there b o e hc) u.tups u.frzs u.tbls (fun m' hm=>by
  obtain ⟨o',es',ep',ho',r'⟩:=hm
  rw [ho] at ho';cases ho'
  exact ⟨_,es',ep',hL,r'⟩) hok hg
theorem Inv.turned {t':Nat} {it:Addr} (I:Inv X pins σ H s) (k:∀b o,b≠it→s.heap.get? b=some o→h'.get? b=some o) (hn:H it=none) (hL:it≠X.env.locals)
  (h1:it∈X.ex∨X.s₀.heap.objs.size≤it) (h2:∀x c,X.env.cells.lookup x=some c→c≠it) (h3:∀p∈X.pn++pins,p.1≠it):Inv X pins σ H { s with heap:=h',toks:=t' }:=by
 have nit:∀b u,H b=some u→b≠it:=fun b u e z=>by rw [z,hn] at e;cases e
 refine I.step (g':=s.gens) (d':=s.drawn) (ch:=[it]) (fun b hb=>?_) (fun b o _ _ hc e _=>k b o (fun z=>hc (by simp [z])) e) (fun b o _ _ hc e _=>⟨o.slots,k b o (fun z=>hc (by simp [z])) e⟩) (fun _ _ _ _ n=>n)
  (fun b o hc e=>⟨o,k b o (fun z=>hc (by simp [z])) e⟩) (fun _ _ e=>e) (fun _ _ _ e=>e) (fun b ps e=>⟨#[],by rw [e];simp⟩) (fun m hm=>?_) (fun b u e=>?_) I.bare
 ·have e:b=it:=by simpa using hb
  subst e
  exact ⟨h1,hL,h2,h3⟩
 ·obtain ⟨o,es,ep,ho,r⟩:=hm
  exact ⟨o,es,ep,k _ o (Ne.symm hL) ho,r⟩
 ·refine (I.hok b u e).stay (fun c v hc q=>k c v ?_ q) (fun _ q=>q) fun _ _ q=>q
  rcases hc with z | z
  ·rw [z];exact nit b u e
  ·exact nit c _ z
theorem Inv.tok (I:Inv X pins σ H s) (t:Nat):Inv X pins σ H { s with toks:=t }:=I.un (h':=s.heap) (t':=t) Un.refl I.hok
theorem Inv.kept {t':Nat} (I:Inv X pins σ H s) (k:∀b u,s.heap.get? b=some u→h'.get? b=some u):Inv X pins σ H { s with heap:=h',toks:=t' }:=I.un (Un.kept k) (I.hok.kept k)
theorem Inv.laid {a:Addr} {o:HO} {t':Nat} (I:Inv X pins σ H s) (k:∀b u,s.heap.get? b=some u→h'.get? b=some u) (hp:s.heap.objs.size≤a) (new:zv X.prog X.w (upd H a o) h' a o):
  Inv X pins σ (upd H a o) { s with heap:=h',toks:=t' }:=I.un (Un.laid k hp (I.hok.fresh hp)) (I.hok.laid k hp new)
theorem Inv.write {x e:Addr} {o:HO} {t':Nat} (I:Inv X pins σ H s) (mu:Mut (H x)) (he:e=x∨H e=some (.own x)) (k:∀b u,b≠e→s.heap.get? b=some u→h'.get? b=some u) (heo:∃u,h'.get? e=some u)
  (new:zv X.prog X.w (upd H x o) h' x o):Inv X pins σ (upd H x o) { s with heap:=h',toks:=t' }:=I.un (Un.write mu he k heo) (I.hok.write mu he k heo new)
theorem Inv.pins_of {pins':List (Addr × Obj)} (I:Inv X pins σ H s) (h:∀p∈pins',s.heap.get? p.1=some p.2∧H p.1=none∧p.1≠X.env.locals∧p.1∉X.fs∧∀v,p.2.data≠.cell v):Inv X pins' σ H s:=
 ⟨I.ok,I.os,I.bare,I.base,I.loc,I.cell,I.free,I.freeC,fun p hp=>(kK.mp hp).elim (fun z=>I.pin p (kG _ z)) (h p),I.hok,I.len⟩
theorem jB {N:List Str} (hN:N.Nodup) {i j:Nat} {x:Str} (a:N[i]?=some x) (b:N[j]?=some x):i=j:=by
 obtain ⟨h1,e1⟩:=kd.mp a
 obtain ⟨h2,e2⟩:=kd.mp b
 exact (List.getElem_inj hN).mp (e1.trans e2.symm)
theorem jS {M:Model} {A:Around} {E:Value→Shared→Prop} {i:Nat} {x:Str} {v:V} {u:Value} {Q:Unit→Shared→Prop} (I:Inv X pins σ H s) (hN:X.N.Nodup) (hi:X.N[i]?=some x) (hx:Loc X.env.scope x) (r:RelV v u)
  (h:∀s',Inv X pins (σ.set i (some v)) H s'→(∃a,Heap.SameBut a s.heap s'.heap∧(a=X.env.locals∨X.env.cells.lookup x=some a))→Q () s') (hf:X.fn x=true∨X.env.scope.names.lookup x=some .local:=by first | exact .inl rfl | exact .inr rfl | assumption):wpAny M A (storeName X.env x u) Q E s:=by
 obtain ⟨m,hn,hl⟩:=id I.loc
 have hcls:(X.env.scope.kind == .class||(X.env.scope.kind == .module&&X.env.locals != X.env.globals))=false:=by rw [I.ok.kind];rfl
 have hiσ:i < σ.length:=by rw [I.len];exact (kd.mp hi).1
 have cne:=I.cne
 have tracked:∀{a:Addr} {h':Heap},(∃o,s.heap.get? a=some o∧H a=none)→Heap.SameBut a s.heap h'→HOk X.prog X.w H h':=fun {a h'} ha hs b ob e=>by
  obtain ⟨_,_,hfree⟩:=ha
  refine (I.hok b ob e).stay (fun c w' hc q=>(hs.2 c ?_).trans q) (fun _ q=>q) fun _ _ q=>q
  rintro rfl
  rcases hc with rfl | hc
  ·rw [hfree] at e;cases e
  ·rw [hfree] at hc;cases hc
 rcases hx with hk | hk
 ·refine wpAny_storeName_local hk hn (fun h' hn' hs=>?_) hcls
  obtain ⟨oL,_,_,hoL,_⟩:=id hn
  refine h _ ⟨I.ok,I.os,I.bare,⟨fun b o e n hb hx=>?_,fun b o e n hb hx=>?_,I.base.free,fun b o e hx=>?_,I.base.tups,I.base.frzs,I.base.tbls⟩,⟨_,hn',fun j y v' e1 e2 e3=>?_⟩,fun y c e=>?_,I.free,I.freeC,fun p hp=>?_,tracked ⟨oL,hoL,I.free⟩ hs,by simpa using I.len⟩ ⟨_,hs,.inl rfl⟩
  ·exact (hs.2 b (Nat.ne_of_lt (kE (Heap.lt_size e) I.ok.above))).trans (I.base.keep b o e n hb hx)
  ·obtain ⟨sl,e1⟩:=I.base.slot b o e n hb hx
   exact ⟨sl,(hs.2 b (Nat.ne_of_lt (kE (Heap.lt_size e) I.ok.above))).trans e1⟩
  ·obtain ⟨o',e1⟩:=I.base.there b o e hx
   exact ⟨o',(hs.2 b (Nat.ne_of_lt (kE (Heap.lt_size e) I.ok.above))).trans e1⟩
  ·by_cases hj:j=i
   ·subst hj
    rw [hi] at e1;cases e1
    rw [List.getElem?_set_self hiσ] at e2
    cases e2
    exact ⟨u,r,.inl ⟨hk,by simp⟩⟩
   ·rw [List.getElem?_set_ne (Ne.symm hj)] at e2
    obtain ⟨u',r',q⟩:=hl j y v' e1 e2 e3
    refine ⟨u',r',?_⟩
    rcases q with ⟨k,e⟩ | ⟨k,c,e,z⟩
    ·refine .inl ⟨k,?_⟩
     have:y≠x:=fun e=>hj (jB hN e1 (e▸hi))
     simp [this,e]
    ·exact .inr ⟨k,c,e,z.sameBut hs (cne y c e)⟩
  ·obtain ⟨w',z⟩:=I.cell y c e
   exact ⟨w',z.sameBut hs (cne y c e)⟩
  ·obtain ⟨e,n,ne,nf,d⟩:=I.pin p hp
   exact ⟨(hs.2 p.1 ne).trans e,n,ne,nf,d⟩
 ·have hfn:X.fn x=true:=by
   rcases hf with z | z
   ·exact z
   ·rw [z] at hk;cases hk
  obtain ⟨c,hc⟩:=I.ok.has x (.inl hk)
  obtain ⟨w',z⟩:=I.cell x c hc
  refine wpAny_storeName_cell I.ok.kind hk hc z (fun h' hc' hs=>?_)
  obtain ⟨oc,hoc,hocd⟩:=id z
  refine h { s with heap:=h' } ⟨I.ok,I.os,I.bare,⟨fun b o e n hb hx=>?_,fun b o e n hb hx=>?_,I.base.free,fun b o e hx=>?_,I.base.tups,I.base.frzs,I.base.tbls⟩,⟨m,hn.sameBut hs (Ne.symm (cne x c hc)),fun j y v' e1 e2 e3=>?_⟩,fun y c' e=>?_,I.free,I.freeC,fun p hp=>?_,tracked ⟨oc,hoc,I.freeC x c hc⟩ hs,by simpa using I.len⟩ ⟨c,hs,.inr hc⟩
  ·exact (hs.2 b (Nat.ne_of_lt (kE (Heap.lt_size e) (I.ok.cab x c hfn hc)))).trans (I.base.keep b o e n hb hx)
  ·obtain ⟨sl,e1⟩:=I.base.slot b o e n hb hx
   exact ⟨sl,(hs.2 b (Nat.ne_of_lt (kE (Heap.lt_size e) (I.ok.cab x c hfn hc)))).trans e1⟩
  ·obtain ⟨o',e1⟩:=I.base.there b o e hx
   exact ⟨o',(hs.2 b (Nat.ne_of_lt (kE (Heap.lt_size e) (I.ok.cab x c hfn hc)))).trans e1⟩
  ·by_cases hj:j=i
   ·subst hj
    rw [hi] at e1;cases e1
    rw [List.getElem?_set_self hiσ] at e2
    cases e2
    exact ⟨u,r,.inr ⟨.inl hk,c,hc,hc'⟩⟩
   ·rw [List.getElem?_set_ne (Ne.symm hj)] at e2
    obtain ⟨u',r',q⟩:=hl j y v' e1 e2 e3
    refine ⟨u',r',?_⟩
    rcases q with q | ⟨k,c',e,z'⟩
    ·exact .inl q
    ·refine .inr ⟨k,c',e,z'.sameBut hs ?_⟩
     rintro rfl
     exact hj (jB hN e1 (I.ok.inj _ _ _ e hc▸hi))
  ·by_cases hcc:c'=c
   ·subst hcc;exact ⟨_,hc'⟩
   ·obtain ⟨w2,z2⟩:=I.cell y c' e
    exact ⟨w2,z2.sameBut hs hcc⟩
  ·obtain ⟨e,n,ne,nf,d⟩:=I.pin p hp
   refine ⟨(hs.2 p.1 ?_).trans e,n,ne,nf,d⟩
   intro q
   rw [q,hoc] at e
   have q':oc=p.2:=kt e
   exact d w' (by rw [←q'];exact hocd)
theorem qL {M:Model} {A:Around} {E:Value→Shared→Prop} {i:Nat} {x:Str} {v:V} {u:Value} {Q:Unit→Shared→Prop} (I:Inv X pins σ H s) (hN:X.N.Nodup) (hi:X.N[i]?=some x) (hx:Loc X.env.scope x) (r:RelV v u)
  (h:∀s',Inv X pins (σ.set i (some v)) H s'→Q () s') (hf:X.fn x=true∨X.env.scope.names.lookup x=some .local:=by first | exact .inl rfl | exact .inr rfl | assumption):wpAny M A (storeName X.env x u) Q E s:=
 jS I hN hi hx r (fun s' I' _=>h s' I') hf
theorem Inv.call' {s':Shared} {ch:List Addr} (I:Inv X pins σ H s) (ho:s'.os=s.os) (u:Un (frs X.stack) ch H H' s.heap s'.heap) (hok:HOk X.prog X.w H' s'.heap) (hg:AllBare s'.gens)
  (hch:∀b∈ch,(b∈X.ex∨X.s₀.heap.objs.size≤b)∧b≠X.env.locals∧(∀x c,X.env.cells.lookup x=some c→c≠b)∧∀p∈X.pn++pins,p.1≠b):Inv X pins σ H' s':=by
 obtain ⟨h',g',d',t',o'⟩:=s'
 have e:o'=s.os:=ho
 subst e
 exact I.call (g':=g') (t':=t') (d':=d') u hok hg hch
end
abbrev XK:=Value→Option Addr→Hp→Prop
abbrev St:=List (Option V)
abbrev VK:=V→Hp→Prop
abbrev TE:=St→Hp→VK→Prop
abbrev TT:=St→Hp→(Bool→Hp→Prop)→Prop
abbrev TA:=St→Hp→(List V→Hp→Prop)→Prop
structure Ends where
 nx:St→Hp→Prop
 rt:VK
 bk:St→Hp→Prop:=fun _ _=>False
 ct:St→Hp→Prop:=fun _ _=>False
abbrev TS:=Ends→St→Hp→Prop
def EP (X:Cx) (pins:List (Addr × Obj)) (σ:St) (Q:VK) (u:Value) (s':Shared):Prop:=∃v H',Inv X pins σ H' s'∧RelV v u∧Q v H'
def TP (X:Cx) (pins:List (Addr × Obj)) (σ:St) (Q:Bool→Hp→Prop) (b:Bool) (s':Shared):Prop:=∃H',Inv X pins σ H' s'∧Q b H'
def AP (X:Cx) (pins:List (Addr × Obj)) (σ:St) (Q:List V→Hp→Prop) (us:List Value) (s':Shared):Prop:=∃vs H',Inv X pins σ H' s'∧Vals vs us∧Q vs H'
def SP (X:Cx) (pins:List (Addr × Obj)) (D:Ends) (f:Flow) (s':Shared):Prop:=
 match f with
 | .next=>∃σ' H',Inv X pins σ' H' s'∧D.nx σ' H'
 | .brk=>∃σ' H',Inv X pins σ' H' s'∧D.bk σ' H'
 | .cont=>∃σ' H',Inv X pins σ' H' s'∧D.ct σ' H'
 | .ret u=>∃v σ' H',Inv X pins σ' H' s'∧RelV v u∧D.rt v H'
def PE (X:Cx) (e:Expr) (t:TE):Prop:=
 ∀(pins:List (Addr × Obj)) (s:Shared) (σ:St) (H:Hp) (Q:VK),Inv X pins σ H s→t σ H Q→wpAny (model X.prog X.w) X.A (eval e X.env) (EP X pins σ Q) X.xe s
def PT (X:Cx) (e:Expr) (t:TT):Prop:=
 ∀(pins:List (Addr × Obj)) (s:Shared) (σ:St) (H:Hp) (Q:Bool→Hp→Prop),Inv X pins σ H s→t σ H Q→wpAny (model X.prog X.w) X.A (isTrue e X.env (eval e X.env)) (TP X pins σ Q) X.xe s
def PW (X:Cx) (e:Expr) (t:TT):Prop:=
 ∀(whole:Sem Value) (pins:List (Addr × Obj)) (s:Shared) (σ:St) (H:Hp) (Q:Bool→Hp→Prop),Inv X pins σ H s→t σ H Q→wpAny (model X.prog X.w) X.A (isTrue e X.env whole) (TP X pins σ Q) X.xe s
theorem PW.pt {X:Cx} {e:Expr} {t:TT} (h:PW X e t):PT X e t:=h _
def PA (X:Cx) (es:List Expr) (t:TA):Prop:=
 ∀(pos:Pos) (pins:List (Addr × Obj)) (s:Shared) (σ:St) (H:Hp) (Q:List V→Hp→Prop),Inv X pins σ H s→t σ H Q→wpAny (model X.prog X.w) X.A (spliced (backTo pos (starEach es X.env))) (AP X pins σ Q) X.xe s
def PS (X:Cx) (st:Stmt) (t:TS):Prop:=
 ∀(pins:List (Addr × Obj)) (s:Shared) (σ:St) (H:Hp) (D:Ends),Inv X pins σ H s→t D σ H→wpAny (model X.prog X.w) X.A (exec st X.env) (SP X pins D) X.xe s
def PSs (X:Cx) (st:List Stmt) (t:TS):Prop:=
 ∀(pins:List (Addr × Obj)) (s:Shared) (σ:St) (H:Hp) (D:Ends),Inv X pins σ H s→t D σ H→wpAny (model X.prog X.w) X.A (execs st X.env) (SP X pins D) X.xe s
theorem thn {α:Type} {t:Sem α} {Q Q':α→Shared→Prop} {M:Model} {A:Around} {E:Value→Shared→Prop} {s:Shared} (h:wpAny M A t Q E s) (hQ:∀a s,Q a s→Q' a s):wpAny M A t Q' E s:=wpAny_mono h hQ fun _ _ x=>x
end L2
namespace L2
open PySem PySem.Spec PyProof.Rows
section
variable {X:Cx}
def tVar (i:Nat):TE:=fun σ H Q=>∃v,σ[i]?=some (some v)∧Q v H
abbrev tC (v:V):TE:=fun _ H Q=>Q v H
theorem z1T {i:Nat} {x:Str} {pos:Pos} (hN:X.N[i]?=some x) (hv:Vis X.env.scope x) (hd:autoParam ((x == ("__debug__":Str))=false) aR._auto_2) (hcd:autoParam ((x == ("__classdict__":Str))=false) aR._auto_2):PE X (.Name x pos) (tVar i):=by
 intro pins s σ H Q I h
 obtain ⟨v,e,h⟩:=h
 obtain ⟨m,hn,hl⟩:=I.loc
 obtain ⟨u,r,l⟩:=hl i x v hN e hv
 have fin:EP X pins σ Q u s:=⟨v,H,I,r,h⟩
 rcases l with ⟨hk,hm⟩ | ⟨hk,c,hc,hcell⟩
 ·exact wpAny_Name (wpAny_loadName_local I.ok.kind hk hn hm fin) hd
 ·rcases hk with hk | hk
  ·exact wpAny_Name (wpAny_loadName_cell I.ok.kind hk hc hcell fin) hd
  ·exact wpAny_Name (wpAny_loadName_free I.ok.kind hk hc hcell fin hcd) hd
theorem zd {i j pos}:PE X (.Constant (.int i) j pos) (tC (.int i)):=fun _ _ _ H _ I h=>wpAny_Constant_int ⟨.int i,H,I.tok _,⟨_,rfl⟩,h⟩
theorem qI {b j pos}:PE X (.Constant (.bool b) j pos) (tC (.bl b)):=fun _ _ _ H _ I h=>Constant_bool ⟨.bl b,H,I,rfl,h⟩
theorem jg {j pos}:PE X (.Constant .none j pos) (tC .non):=fun _ _ _ H _ I h=>Constant_none ⟨.non,H,I,rfl,h⟩
theorem zS {x j pos}:PE X (.Constant (.str x) j pos) (tC (.str x)):=fun _ _ _ H _ I h=>Calls.Constant_str ⟨.str x,H,I.tok _,⟨_,rfl⟩,h⟩
def Gl (X:Cx) (x:Str):Prop:=X.env.kindOf x=some .globalImplicit
theorem qX {E:Value→Shared→Prop} {pins:List (Addr × Obj)} {s:Shared} {σ:St} {H:Hp} {x:Str} {u:Value} {pos:Pos} {Q:Value→Shared→Prop} (I:Inv X pins σ H s) (hg:Gl X x) (hm:X.mg x=some u) (h:Q u s)
  (hd:autoParam ((x == ("__debug__":Str))=false) aR._auto_2):wpAny (model X.prog X.w) X.A (eval (.Name x pos) X.env) Q E s:=
 Calls.Name_function_global I.ok.kind hg (Calls.loadGlobal_global (by rw [I.ok.glob];exact I.mod.glob.keeps I.bk) hm h) hd
theorem qv {E:Value→Shared→Prop} {pins:List (Addr × Obj)} {s:Shared} {σ:St} {H:Hp} {x:Str} {u:Value} {pos:Pos} {Q:Value→Shared→Prop} (I:Inv X pins σ H s) (hg:Gl X x) (hm:X.mg x=none) (hv:bootBuiltins x=some u) (h:Q u s)
  (hn:autoParam (x≠"__name__") aR._auto_2) (hd:autoParam ((x == ("__debug__":Str))=false) aR._auto_2):wpAny (model X.prog X.w) X.A (eval (.Name x pos) X.env) Q E s:=by
 obtain ⟨mb,h1,h2⟩:=I.mod.blt
 exact Calls.Name_function_global I.ok.kind hg (Calls.loadGlobal_builtin (by rw [I.ok.glob];exact I.mod.glob.keeps I.bk) hm (by rw [I.ok.blt];exact h1.keeps I.bk) ((h2 x hn).trans hv) h) hd
theorem zZ {x:Str} {v:V} {u:Value} {pos:Pos} (hg:Gl X x) (hm:X.mg x=some u) (r:RelV v u) (hd:autoParam ((x == ("__debug__":Str))=false) aR._auto_2):PE X (.Name x pos) (tC v):=
 fun _ _ _ H _ I h=>qX I hg hm ⟨v,H,I,r,h⟩ hd
theorem z0Y {x:Str} {v:V} {u:Value} {pos:Pos} (hg:Gl X x) (hm:X.mg x=none) (hv:bootBuiltins x=some u) (r:RelV v u) (hn:autoParam (x≠"__name__") aR._auto_2) (hd:autoParam ((x == ("__debug__":Str))=false) aR._auto_2):PE X (.Name x pos) (tC v):=
 fun _ _ _ H _ I h=>qv I hg hm hv ⟨v,H,I,r,h⟩ hn hd
variable {a b:Expr} {ta tb:TE} {pos:Pos}
def PC (X:Cx) (op:CmpOp) (a b:Expr) (t:TE):Prop:=
 ∀(pins:List (Addr × Obj)) (s:Shared) (σ:St) (H:Hp) (Q:VK),Inv X pins σ H s→t σ H Q→
  wpAny (model X.prog X.w) X.A (eval a X.env) (fun v s₁=>wpAny (model X.prog X.w) X.A (eval b X.env) (fun u s₂=>wpAny (model X.prog X.w) X.A (compareOp op v u) (EP X pins σ Q) X.xe s₂) X.xe s₁) X.xe s
def tB (t:TE):TT:=fun σ H Q=>t σ H fun x H1=>∃c,x=.bl c∧Q c H1
theorem z0u {op:CmpOp} {t:TE} (h:PC X op a b t) (h1:behindInMarks op b=false:=by first | exact nobehind _ (by decide) (by decide) | rfl):PT X (.Compare a [op] [b] pos) (tB t):=by
 intro pins s σ H Q I hw
 refine wpAny_isTrue_Compare1 (thn (h pins s σ H _ I hw) fun v s1 h1=>thn h1 fun u s2 h2=>thn h2 fun c s3 ⟨x,H1,I1,r1,q1⟩=>?_) h1
 obtain ⟨d,rfl,q⟩:=q1
 cases r1
 exact wpAny_truthy_bool ⟨H1,I1,q⟩
theorem qE {e:Expr} {t:TE} (h:PE X e t) (he:∀whole,isTrue e X.env whole=(do let v ←whole;standAt e.pos;holding [v] (truthy v)):=by intro _;rfl):PT X e (tB t):=by
 intro pins s σ H Q I hw
 refine isTrue_plain (thn (h pins s σ H _ I hw) fun v s1 ⟨x,H1,I1,r1,q1⟩=>?_) (he _)
 obtain ⟨d,rfl,q⟩:=q1
 cases r1
 exact wpAny_truthy_bool ⟨H1,I1,q⟩
variable {tA tB':TT} {rest:List Expr}
def tAnd (t u:TT):TT:=fun σ H Q=>t σ H fun c H1=>if c=true then u σ H1 Q else Q false H1
def tOr (t u:TT):TT:=fun σ H Q=>t σ H fun c H1=>if c=true then Q true H1 else u σ H1 Q
def tNot (t:TT):TT:=fun σ H Q=>t σ H fun c H1=>Q (!c) H1
theorem QO (ha:PT X a tA):PW X (.BoolOp .And [a] pos) tA:=by
 intro wh pins s σ H Q I h
 refine isTrue_and (thn (ha pins s σ H Q I h) fun c s1 e=>?_)
 cases c with
 | true=>exact isTrue_and_nil e
 | false=>exact e
theorem ZS (ha:PT X a tA):PW X (.BoolOp .Or [a] pos) tA:=by
 intro wh pins s σ H Q I h
 refine isTrue_or (thn (ha pins s σ H Q I h) fun c s1 e=>?_)
 cases c with
 | false=>exact isTrue_or_nil e
 | true=>exact e
theorem z0t (ha:PT X a tA) (hb:PW X (.BoolOp .And (b :: rest) pos) tB'):PW X (.BoolOp .And (a :: b :: rest) pos) (tAnd tA tB'):=by
 intro wh pins s σ H Q I h
 refine isTrue_and (thn (ha pins s σ H _ I h) fun c s1 zz=>?_)
 obtain ⟨H1,I1,q1⟩:=zz
 cases c with
 | true=>exact hb wh pins s1 σ H1 Q I1 q1
 | false=>exact ⟨H1,I1,q1⟩
theorem QN (ha:PT X a tA) (hb:PW X (.BoolOp .Or (b :: rest) pos) tB'):PW X (.BoolOp .Or (a :: b :: rest) pos) (tOr tA tB'):=by
 intro wh pins s σ H Q I h
 refine isTrue_or (thn (ha pins s σ H _ I h) fun c s1 zz=>?_)
 obtain ⟨H1,I1,q1⟩:=zz
 cases c with
 | true=>exact ⟨H1,I1,q1⟩
 | false=>exact hb wh pins s1 σ H1 Q I1 q1
theorem qm (ha:PT X a tA):PT X (.UnaryOp .Not a pos) (tNot tA):=by
 intro pins s σ H Q I h
 exact isTrue_not (ha pins s σ H (fun c H1=>Q (!c) H1) I h)
def z2x (ta tb:TE):TE:=fun σ H Q=>ta σ H fun x H1=>∃c,x=.bl c∧if c=true then tb σ H1 Q else Q (.bl false) H1
def z2v (ta:TE):TE:=fun σ H Q=>ta σ H fun x H1=>∃c,x=.bl c∧Q (.bl (!c)) H1
theorem jf {op} {t:TE} (h:PE X a t):PE X (.BoolOp op [a] pos) t:=fun pins s σ H Q I hw=>BoolOp_one (h pins s σ H Q I hw)
theorem jh (ha:PE X a ta) (hb:PE X (.BoolOp .And (b :: rest) pos) tb):PE X (.BoolOp .And (a :: b :: rest) pos) (z2x ta tb):=by
 intro pins s σ H Q I h
 refine BoolOp_and (thn (ha pins s σ H _ I h) fun v s1 zz=>?_)
 obtain ⟨x,H1,I1,r1,q1⟩:=zz
 obtain ⟨c,rfl,q1⟩:=q1
 cases r1
 refine wpAny_truthy_bool ?_
 cases c with
 | true=>exact hb pins s1 σ H1 Q I1 q1
 | false=>exact ⟨.bl false,H1,I1,rfl,q1⟩
theorem z0v (ha:PE X a ta):PE X (.UnaryOp .Not a pos) (z2v ta):=by
 intro pins s σ H Q I h
 refine UnaryOp_ (thn (ha pins s σ H _ I h) fun v s1 zz=>?_)
 obtain ⟨x,H1,I1,r1,q1⟩:=zz
 obtain ⟨c,rfl,q1⟩:=q1
 cases r1
 exact not_of (wpAny_truthy_bool ⟨.bl (!c),H1,I1,rfl,q1⟩)
def tIf (t:TT) (ta tb:TE):TE:=fun σ H Q=>t σ H fun c H1=>if c=true then ta σ H1 Q else tb σ H1 Q
theorem ZX {c:Expr} (hc:PT X c tA) (ha:PE X a ta) (hb:PE X b tb):PE X (.IfExp c a b pos) (tIf tA ta tb):=by
 intro pins s σ H Q I h
 refine wpAny_IfExp (thn (hc pins s σ H _ I h) fun d s1 zz=>?_)
 obtain ⟨H1,I1,q1⟩:=zz
 cases d with
 | true=>exact ha pins s1 σ H1 Q I1 q1
 | false=>exact hb pins s1 σ H1 Q I1 q1
end
end L2
namespace L2
open PySem PySem.Spec PyProof.Rows
def SqL (K:ko) (H:Hp) (a:Addr) (xs:List V):Prop:=
 Rd H a (.lst xs)∨
  ∃(o:Obj) (its:Array Value) (n:Nat),K.lookup a=some o∧o.cls=.type "list"∧o.dict=none∧o.data=.seq its n∧its.size≤sizeLine∧Vals xs its.toList
def SqT (K:ko) (H:Hp) (a:Addr) (xs:List V):Prop:=
 Rd H a (.tup xs)∨
  ∃(o:Obj) (its:Array Value) (n:Nat),K.lookup a=some o∧o.cls=.type "tuple"∧o.data=.seq its n∧its.size≤sizeLine∧Vals xs its.toList
noncomputable def absV:Value→Option V
 | .none=>some .non
 | .bool b=>some (.bl b)
 | .int i _=>some (.int i)
 | .str x _=>some (.str x)
 | .bytes b _=>some (.byt b)
 | .float b _=>some (.flt b)
 | .ref a=>some (.ref a)
 | .type n=>some (.ty n)
 | _=>none
theorem RelV.abs {x:V} {u:Value} (r:RelV x u):absV u=some x:=by
 cases x with
 | non=>cases r;rfl
 | bl _=>cases r;rfl
 | int _=>obtain ⟨t,rfl⟩:=r;rfl
 | str _=>obtain ⟨t,rfl⟩:=r;rfl
 | byt _=>obtain ⟨t,rfl⟩:=r;rfl
 | flt _=>obtain ⟨t,rfl⟩:=r;rfl
 | ref _=>cases r;rfl
 | ty _=>cases r;rfl
theorem RelV.inj {x y:V} {u:Value} (r:RelV x u) (q:RelV y u):x=y:=kt (r.abs.symm.trans q.abs)
theorem Vals.inj:∀{xs ys:List V} {us:List Value},Vals xs us→Vals ys us→xs=ys
 | _,_,_,.nil,.nil=>rfl
 | _,_,_,.cons r t,.cons r' t'=>by rw [r.inj r',Vals.inj t t']
section
variable {X:Cx} {pins:List (Addr × Obj)} {σ:St} {H:Hp} {s:Shared} {a:Addr} {xs ys:List V}
theorem SqL.of {K:ko} (h:H a=some (.lst xs)):SqL K H a xs:=.inl (.inl h)
theorem SqT.of {K:ko} (h:H a=some (.tup xs)):SqT K H a xs:=.inl (.inl h)
theorem Inv.list (I:Inv X pins σ H s) (h:SqL X.K H a xs):∃its:List Value,Vals xs its∧PlainL s.heap a its.toArray∧xs.length≤sizeLine:=by
 rcases h with h | ⟨o,its,n,hk,hc,hd,hs,hz,r⟩
 ·obtain ⟨z,its,n,r,e⟩:=h.ok I.hok
  exact ⟨its,r,⟨_,n,e,rfl,rfl,rfl⟩,z⟩
 ·refine ⟨its.toList,r,⟨o,n,I.kIn a o hk,hc,hd,by simpa using hs⟩,?_⟩
  have e:=r.length
  simp only [Array.length_toList] at e
  lia
theorem Inv.tuple (I:Inv X pins σ H s) (h:SqT X.K H a xs):∃its:List Value,Vals xs its∧IsTup s.heap a its.toArray∧xs.length≤sizeLine:=by
 rcases h with h | ⟨o,its,n,hk,hc,hs,hz,r⟩
 ·obtain ⟨z,its,r,p⟩:=h.ok I.hok
  exact ⟨its,r,p,z⟩
 ·refine ⟨its.toList,r,⟨o,I.kIn a o hk,hc,n,by simpa using hs⟩,?_⟩
  have e:=r.length
  simp only [Array.length_toList] at e
  lia
theorem Inv.list_inj (I:Inv X pins σ H s) (h:SqL X.K H a xs) (h':SqL X.K H a ys):xs=ys:=by
 obtain ⟨its,r,⟨o,n,e,_,_,d⟩,_⟩:=I.list h
 obtain ⟨its',r',⟨o',n',e',_,_,d'⟩,_⟩:=I.list h'
 rw [e] at e';cases e'
 rw [d] at d'
 injection d' with d1 _
 have:its=its':=by simpa using congrArg Array.toList d1
 subst this
 exact r.inj r'
end
noncomputable abbrev Cx.wish (X:Cx) (E:Value→Shared→Prop):Cx:={ X with xe:=E }
noncomputable abbrev Cx.nox (X:Cx):Cx:=X.wish fun _ _=>False
theorem Cx.Ok.wish {X:Cx} (ok:X.Ok) (E:Value→Shared→Prop):(X.wish E).Ok:=
 ⟨ok.mod,ok.kind,ok.glob,ok.blt,ok.above,ok.inj,ok.has,ok.cab,ok.hd,ok.frames,ok.stk,ok.exf,ok.bs,ok.bsz,ok.noex,ok.exfs,ok.funs,ok.frf⟩
theorem Cx.Ok.unwish {X:Cx} {E:Value→Shared→Prop} (ok:(X.wish E).Ok):X.Ok:=
 ⟨ok.mod,ok.kind,ok.glob,ok.blt,ok.above,ok.inj,ok.has,ok.cab,ok.hd,ok.frames,ok.stk,ok.exf,ok.bs,ok.bsz,ok.noex,ok.exfs,ok.funs,ok.frf⟩
section
variable {X:Cx} {pins:List (Addr × Obj)} {σ:St} {H:Hp} {s:Shared} {E:Value→Shared→Prop}
theorem Inv.wish (I:Inv X pins σ H s) (E:Value→Shared→Prop):Inv (X.wish E) pins σ H s:=⟨I.ok.wish E,I.os,I.bare,I.base,I.loc,I.cell,I.free,I.freeC,I.pin,I.hok,I.len⟩
theorem Inv.unwish (I:Inv (X.wish E) pins σ H s):Inv X pins σ H s:=⟨I.ok.unwish,I.os,I.bare,I.base,I.loc,I.cell,I.free,I.freeC,I.pin,I.hok,I.len⟩
theorem SP.unwish {D:Ends} {f:Flow} {s':Shared} (h:SP (X.wish E) pins D f s'):SP X pins D f s':=by
 cases f with
 | next=>obtain ⟨σ',H',I,q⟩:=h;exact ⟨σ',H',I.unwish,q⟩
 | brk=>obtain ⟨σ',H',I,q⟩:=h;exact ⟨σ',H',I.unwish,q⟩
 | cont=>obtain ⟨σ',H',I,q⟩:=h;exact ⟨σ',H',I.unwish,q⟩
 | ret u=>obtain ⟨v,σ',H',I,r,q⟩:=h;exact ⟨v,σ',H',I.unwish,r,q⟩
theorem PSs.nox {st:List Stmt} {t:TS} (h:PSs X.nox st t):PSs X st t:=fun pins s σ H D I hw=>
 wpAny_mono (h pins s σ H D (I.wish _) hw) (fun _ _ q=>q.unwish) fun _ _ z=>False.elim z
end
section
variable {X:Cx} {st:Stmt} {rest:List Stmt} {t u:TS} {e:Expr} {te:TE} {pos:Pos}
def z1D:TS:=fun D σ H=>D.nx σ H
def tSeq (t u:TS):TS:=fun D σ H=>t { D with nx:=u D } σ H
theorem zE:PSs X [] z1D:=fun _ _ σ H _ I h=>wpAny_execs_nil ⟨σ,H,I,h⟩
theorem z8 (h1:PS X st t) (h2:PSs X rest u):PSs X (st :: rest) (tSeq t u):=by
 intro pins s σ H D I h
 refine wpAny_execs_cons (thn (h1 pins s σ H { D with nx:=u D } I h) fun f s1 q=>?_)
 cases f with
 | next=>
  obtain ⟨σ',H',I',q⟩:=q
  exact h2 pins s1 σ' H' D I' q
 | ret v=>exact q
 | brk=>exact q
 | cont=>exact q
theorem zi (h1:PS X st t):PSs X [st] t:=by
 intro pins s σ H D I h
 refine wpAny_execs_cons (thn (h1 pins s σ H D I h) fun f s1 q=>?_)
 cases f with
 | next=>exact wpAny_execs_nil q
 | ret v=>exact q
 | brk=>exact q
 | cont=>exact q
theorem Inv.quiet {pins:List (Addr × Obj)} {σ:St} {H:Hp} {s:Shared} (I:Inv X pins σ H s):interactive X.env=false:=by simp [interactive,I.ok.kind]
def z2w (te:TE):TS:=fun D σ H=>te σ H fun _ H1=>D.nx σ H1
theorem Zx (he:PE X e te) (hs:autoParam (swapsWith e none pos.line X.env=pure false) aR._auto_1):PS X (.Expr e pos) (z2w te):=by
 intro pins s σ H D I h
 exact wpAny_Expr_any (thn (he pins s σ H _ I h) fun v s1 ⟨x,H1,I1,r1,q1⟩=>⟨σ,H1,I1,q1⟩) I.quiet hs
def tRet (te:TE):TS:=fun D σ H=>te σ H D.rt
theorem zo (he:PE X e te):PS X (.Return (some e) pos) (tRet te):=by
 intro pins s σ H D I h
 exact wpAny_Return_some (thn (he pins s σ H _ I h) fun v s1 ⟨x,H1,I1,r1,q1⟩=>⟨x,σ,H1,I1,r1,q1⟩)
def tIfS (c:TT) (t u:TS):TS:=fun D σ H=>c σ H fun b H1=>if b=true then t D σ H1 else u D σ H1
theorem qj {c:Expr} {a b:List Stmt} {tc:TT} (hc:PT X c tc) (ha:PSs X a t) (hb:PSs X b u):PS X (.If c a b pos) (tIfS tc t u):=by
 intro pins s σ H D I h
 refine wpAny_If (thn (hc pins s σ H _ I h) fun d s1 zz=>?_)
 obtain ⟨H1,I1,q1⟩:=zz
 cases d with
 | true=>exact ha pins s1 σ H1 D I1 q1
 | false=>exact hb pins s1 σ H1 D I1 q1
def z0k:TS:=fun _ _ _=>False
theorem ZU:PS X st z0k:=fun _ _ _ _ _ _ h=>h.elim
theorem QP {sts:List Stmt}:PSs X sts z0k:=fun _ _ _ _ _ _ h=>h.elim
end
abbrev TG:=V→St→Hp→(St→Hp→Prop)→Prop
abbrev TGs:=List V→St→Hp→(St→Hp→Prop)→Prop
def PG (X:Cx) (target:Expr) (t:TG):Prop:=
 ∀(pins:List (Addr × Obj)) (s:Shared) (σ:St) (H:Hp) (v:V) (u:Value) (Q:St→Hp→Prop),Inv X pins σ H s→RelV v u→t v σ H Q→
  wpAny (model X.prog X.w) X.A (assign target X.env u) (fun _ s'=>∃σ' H',Inv X pins σ' H' s'∧Q σ' H') X.xe s
def PGs (X:Cx) (ts:List Expr) (t:TGs):Prop:=
 ∀(pins:List (Addr × Obj)) (s:Shared) (σ:St) (H:Hp) (vs:List V) (us:List Value) (Q:St→Hp→Prop),Inv X pins σ H s→Vals vs us→t vs σ H Q→
  wpAny (model X.prog X.w) X.A (assignInOrder ((assignEach ts X.env).map (·.2)) us) (fun _ s'=>∃σ' H',Inv X pins σ' H' s'∧Q σ' H') X.xe s
abbrev TSet:=V→V→V→Hp→(Hp→Prop)→Prop
def PSet (X:Cx) (t:TSet):Prop:=
 ∀(pins:List (Addr × Obj)) (s:Shared) (σ:St) (H:Hp) (o i v:V) (ov iv u:Value) (Q:Hp→Prop),Inv X pins σ H s→RelV o ov→RelV i iv→RelV v u→t o i v H Q→
  wpAny (model X.prog X.w) X.A (setItem ov iv u) (fun _ s'=>∃H',Inv X pins σ H' s'∧Q H') X.xe s
section
variable {X:Cx} {pos:Pos}
def Qo (i:Nat):TG:=fun v σ H Q=>Q (σ.set i (some v)) H
theorem zK {i:Nat} {x:Str} (hN:X.N.Nodup) (hi:X.N[i]?=some x) (hx:Loc X.env.scope x) (hf:X.fn x=true∨X.env.scope.names.lookup x=some .local:=by first | exact .inl rfl | exact .inr rfl | assumption):PG X (.Name x pos) (Qo i):=by
 intro pins s σ H v u Q I r h
 exact wpAny_assign_Name (qL I hN hi hx r (fun s' I'=>⟨_,H,I',h⟩) hf)
def gNil:TGs:=fun vs σ H Q=>vs=[]∧Q σ H
def z2P (t:TG) (u:TGs):TGs:=fun vs σ H Q=>∃v r,vs=v :: r∧t v σ H fun σ' H'=>u r σ' H' Q
theorem z0W:PGs X [] gNil:=by
 intro pins s σ H vs us Q I r h
 obtain ⟨e,h⟩:=h
 subst e
 cases r
 exact assignInOrder_nil ⟨σ,H,I,h⟩
theorem ZV {e:Expr} {es:List Expr} {t:TG} {u:TGs} (h1:PG X e t) (h2:PGs X es u)
  (hs:autoParam ((assignEach (e :: es) X.env).map (·.2)=assign e X.env :: (assignEach es X.env).map (·.2)) aR._auto_1):PGs X (e :: es) (z2P t u):=by
 intro pins s σ H vs us Q I r h
 obtain ⟨v,vr,e1,h⟩:=h
 subst e1
 cases r with
 | cons r rr=>
  rw [hs]
  refine assignInOrder_cons (thn (h1 pins s σ H _ _ _ I r h) fun _ s1 zz=>?_)
  obtain ⟨σ1,H1,I1,q1⟩:=zz
  exact h2 pins s1 σ1 H1 _ _ Q I1 rr q1
def gTup (K:ko) (n:Nat) (t:TGs):TG:=fun v σ H Q=>∃a xs,v=.ref a∧SqT K H a xs∧xs.length=n∧t xs σ H Q
theorem z1S {es:List Expr} {k:Nat} {t:TGs} {n:Nat} (hc:X.calm=true) (h:PGs X es t)
  (hn:autoParam ((assignEach es X.env).length=n) aR._auto_1) (hst:autoParam ((assignEach es X.env).findIdx? (·.1)=none) aR._auto_1):PG X (.Tuple es k pos) (gTup X.K n t):=by
 intro pins s σ H v u Q I r hw
 obtain ⟨a,xs,e1,hq,hl,hw⟩:=hw
 subst e1
 cases r
 obtain ⟨its,rv,ht,hz⟩:=I.tuple hq
 refine assign_Tuple_tuple (I.ok.hd hc) ht (by simp [hn,←hl,rv.length]) hst fun h' hx=>?_
 have I1:Inv X pins σ H { s with heap:=h' }:=I.kept (t':=s.toks) fun b o e=>hx b o (Nat.ne_of_lt (Heap.lt_size e)) e
 exact h pins _ σ H xs _ Q I1 (by simpa using rv) hw
def gSub (to ti:TE) (t:TSet):TG:=fun v σ H Q=>to σ H fun o H1=>ti σ H1 fun i H2=>t o i v H2 fun H3=>Q σ H3
theorem qF {o i:Expr} {to ti:TE} {t:TSet} (ho:PE X o to) (hi:PE X i ti) (hs:PSet X t)
  (ha:∀v,assign (.Subscript o i pos) X.env v=(do
   let ov ←holding [v] (eval o X.env)
   let iv ←holding [v,ov] (eval i X.env)
   standAt pos
   holding [v,ov,iv] (setItem ov iv v)
   release [v,ov,iv] []):=by intro _;rfl):PG X (.Subscript o i pos) (gSub to ti t):=by
 intro pins s σ H v u Q I r h
 rw [ha]
 refine wpAny_bind (wpAny_holding (thn (ho pins s σ H _ I h) fun ov s1 zz=>?_))
 obtain ⟨x,H1,I1,r1,q1⟩:=zz
 refine wpAny_bind (wpAny_holding (thn (hi pins s1 σ H1 _ I1 q1) fun iv s2 zz=>?_))
 obtain ⟨y,H2,I2,r2,q2⟩:=zz
 refine wpAny_bind (wpAny_standAt (wpAny_bind (wpAny_holding (thn (hs pins s2 σ H2 x y v ov iv u _ I2 r1 r2 r q2) fun _ s3 zz=>?_))))
 obtain ⟨H3,I3,q3⟩:=zz
 exact wpAny_release ⟨σ,H3,I3,q3⟩
def tAsg (te:TE) (g:TG):TS:=fun D σ H=>te σ H fun x H1=>g x σ H1 D.nx
theorem qR {tg e:Expr} {te:TE} {g:TG} (he:PE X e te) (hg:PG X tg g) (hs:autoParam (swapsWithSole [tg] e pos.line X.env=pure false) aR._auto_1) (hw:autoParam (swappedStores [tg] e X.env=pure none) aR._auto_1)
  (h1:autoParam ((assignEach [tg] X.env).map (·.2)=[assign tg X.env]) aR._auto_1):PS X (.Assign [tg] e pos) (tAsg te g):=by
 intro pins s σ H D I h
 refine wpAny_Assign_stores (thn (he pins s σ H _ I h) fun v s1 ⟨x,H1,I1,r1,q1⟩=>?_) hs hw
 rw [h1]
 exact thn (hg pins s1 σ H1 x v _ I1 r1 q1) fun _ s2 q=>q
theorem zk {i:Nat} {x:Str} {e:Expr} {te:TE} {pos':Pos} (hN:X.N.Nodup) (hi:X.N[i]?=some x) (hx:Loc X.env.scope x) (he:PE X e te) (hs:autoParam (swapsWith e (some (.Name x pos')) pos.line X.env=pure false) aR._auto_1) (hf:X.fn x=true∨X.env.scope.names.lookup x=some .local:=by first | exact .inl rfl | exact .inr rfl | assumption):
  PS X (.Assign [.Name x pos'] e pos) (tAsg te (Qo i)):=by
 intro pins s σ H D I h
 refine wpAny_Assign_Name (thn (he pins s σ H _ I h) fun v s1 ⟨y,H1,I1,r1,q1⟩=>?_) hs
 exact qL I1 hN hi hx r1 (fun s2 I2=>⟨_,H1,I2,q1⟩) hf
end
section
variable {X:Cx} {pos:Pos}
def z0j (c:TT) (tb:TS):TS:=fun D σ H=>∃W:Nat→St→Hp→Prop,(∃m,W m σ H)∧∀m σ H,W m σ H→
 c σ H fun b H1=>if b=true then ∃N:St→Hp→Prop,(∀σ' H',N σ' H'→∃m',m' < m∧W m' σ' H')∧tb { D with nx:=N,ct:=N,bk:=D.nx } σ H1 else D.nx σ H1
theorem jz {c:Expr} {body:List Stmt} {tc:TT} {tb:TS} (hp:PassesOwn (model X.prog X.w) X.A X.env X.xe) (hc:PT X c tc) (hb:PSs X body tb):PS X (.While c body [] pos) (z0j tc tb):=by
 intro pins s σ H D I h
 obtain ⟨W,⟨m0,w0⟩,turn⟩:=h
 refine wpAny_While (codeAny_whileLoop (fun n s'=>∃σ' H',Inv X pins σ' H' s'∧W n σ' H') ?_ m0 ⟨σ,H,I,w0⟩)
 rintro n s1 ⟨σ1,H1,I1,w1⟩
 refine wpAny_passesOwn hp (thn (hc pins s1 σ1 H1 _ I1 (turn n σ1 H1 w1)) fun b s2 zz=>?_)
 obtain ⟨H2,I2,q2⟩:=zz
 cases b with
 | true=>
  obtain ⟨N,hN,q2⟩:=q2
  rw [kr rfl]
  refine wpAny_passesOwn hp (thn (hb pins s2 σ1 H2 _ I2 q2) fun f s3 q3=>?_)
  cases f with
  | next=>
   obtain ⟨σ3,H3,I3,n3⟩:=q3
   obtain ⟨m',hm,w3⟩:=hN σ3 H3 n3
   exact ⟨m',hm,σ3,H3,I3,w3⟩
  | cont=>
   obtain ⟨σ3,H3,I3,n3⟩:=q3
   obtain ⟨m',hm,w3⟩:=hN σ3 H3 n3
   exact ⟨m',hm,σ3,H3,I3,w3⟩
  | brk=>exact q3
  | ret v=>exact q3
 | false=>
  rw [kq ka]
  exact wpAny_execs_nil ⟨σ1,H2,I2,q2⟩
end
structure It where
 go:Nat→Hp→Prop
 yld:Nat→Hp→V→Hp→Prop
 stop:Nat→Hp→Prop
def FpOk (X:Cx) (pins:List (Addr × Obj)) (H:Hp) (b:Addr):Prop:=
 H b=none∧b≠X.env.locals∧b∉X.fs∧(b∈X.ex∨X.s₀.heap.objs.size≤b)∧(∀x c,X.env.cells.lookup x=some c→c≠b)∧∀p∈X.pn++pins,p.1≠b
theorem Inv.fpOk {X:Cx} {pins:List (Addr × Obj)} {σ:St} {H H':Hp} {s:Shared} {b:Addr} (I:Inv X pins σ H s) (hb:s.heap.objs.size≤b) (hn:H' b=none):FpOk X pins H' b:=by
 refine ⟨hn,Nat.ne_of_gt (kE I.lt hb),I.nofs hb,.inr (km I.sz hb),fun x c e z=>?_,fun p hp z=>?_⟩
 ·obtain ⟨v,q⟩:=I.cell x c e
  exact absurd (kE q.lt (by rw [z];exact hb)) (Nat.lt_irrefl _)
 ·exact absurd (kE (Heap.lt_size (I.pin p hp).1) (by rw [z];exact hb)) (Nat.lt_irrefl _)
structure Turn (P:Program) (w:World) (K:ko) (tg:Expr) (J:It) (fp:List Addr) (it:Addr) (tn:Nat→Heap→Prop):Prop where
 mem:it∈fp
 obj:∀i h,tn i h→∀b∈fp,∃o,h.get? b=some o∧∀v,o.data≠.cell v
 keep:∀i h h',tn i h→(∀b∈fp,∀o,h.get? b=some o→h'.get? b=some o)→tn i h'
 item:∀(X:Cx),X.prog=P→X.w=w→X.K=K→X.calm=true→∀(i:Nat) (pins:List (Addr × Obj)) (s:Shared) (σ:St) (H:Hp) (E:Value→Shared→Prop),Inv X pins σ H s→(∀b∈fp,FpOk X pins H b)→tn i s.heap→J.go i H→
  wpAny (model P w) X.A (pyNext (.ref it)) (fun r s1=>∃u,r=some u∧
   wpAny (model P w) X.A (letOwnedTupleGo tg (.ref it) u) (fun _ s2=>∃x H',Inv X pins σ H' s2∧RelV x u∧J.yld i H x H'∧tn (i+1) s2.heap∧∀b∈fp,H' b=none) E s1) E s
 done:∀(X:Cx),X.prog=P→X.w=w→X.K=K→X.calm=true→∀(i:Nat) (pins:List (Addr × Obj)) (s:Shared) (σ:St) (H:Hp) (E:Value→Shared→Prop),Inv X pins σ H s→(∀b∈fp,FpOk X pins H b)→tn i s.heap→J.stop i H→
  wpAny (model P w) X.A (pyNext (.ref it)) (fun r s1=>r=none∧Inv X pins σ H s1) E s
 self:∀(A:Around) (i:Nat) (s:Shared) (Q:Value→Shared→Prop) (E:Value→Shared→Prop),tn i s.heap→Q (.ref it) s→wpAny (model P w) A (pyIter (.ref it)) Q E s
abbrev TI:=St→Hp→(It→Hp→Prop)→Prop
def PIE (X:Cx) (pins:List (Addr × Obj)) (σ:St) (tg:Expr) (R:It→Hp→Prop) (itv:Value) (s2:Shared):Prop:=
 ∃(it:Addr) (fp:List Addr) (tn:Nat→Heap→Prop) (J:It) (H':Hp),itv=.ref it∧Inv X pins σ H' s2∧Turn X.prog X.w X.K tg J fp it tn∧tn 0 s2.heap∧(∀b∈fp,FpOk X pins H' b)∧R J H'
def PI (X:Cx) (tg iter:Expr) (wi:TI):Prop:=
 ∀(pins:List (Addr × Obj)) (s:Shared) (σ:St) (H:Hp) (R:It→Hp→Prop),Inv X pins σ H s→wi σ H R→
  wpAny (model X.prog X.w) X.A (eval iter X.env) (fun v s1=>wpAny (model X.prog X.w) X.A (pyIter v) (PIE X pins σ tg R) X.xe s1) X.xe s
theorem z1c {M:Model} {A:Around} {E:Value→Shared→Prop} {s:Shared} {tg:Expr} {it:Addr} {u:Value} {o:Obj} {n:String} {vs:Array Value} {Q:Unit→Shared→Prop} (ho:s.heap.get? it=some o) (hc:o.cls=.type n) (hd:o.data=.fields vs)
  (hn:["enumerate","zip","dict_itemiterator","dict_reverseitemiterator","odict_iterator","itertools.zip_longest","itertools.pairwise"].contains n=false) (hQ:Q () s):wpAny M A (letOwnedTupleGo tg (.ref it) u) Q E s:=by
 unfold letOwnedTupleGo
 cases tg <;> first
  | exact wpAny_pure hQ
  | (cases u <;> first
    | exact wpAny_pure hQ
    | (refine wpAny_bind (wpAny_load ho ?_);rw [hc,hd];show wpAny M A (if (["enumerate","zip","dict_itemiterator","dict_reverseitemiterator","odict_iterator","itertools.zip_longest","itertools.pairwise"].contains n&&vs[0]? == some (rawInt _))=true then _ else _) Q E s;rw [kq (by intro h;rw [hn,Bool.false_and] at h;cases h)];exact wpAny_pure hQ))
noncomputable def Itl (K:ko) (a:Addr):It:=
 ⟨fun i H=>∃xs x,SqL K H a xs∧xs[i]?=some x,fun i H x H'=>H'=H∧∀xs,SqL K H a xs→xs[i]?=some x,fun i H=>∃xs,SqL K H a xs∧xs.length≤i⟩
noncomputable def Itr (lo:Int) (n:Nat):It:=⟨fun i _=>i < n,fun i H x H'=>H'=H∧x=.int (lo+i),fun i _=>n≤i⟩
theorem Qx {P:Program} {w:World} {K:ko} {tg:Expr} (a it:Addr):Turn P w K tg (Itl K a) [it] it (fun i h=>h.IsListIter it a i) where
 mem:=by simp
 obj:=fun i h st b hb=>by
  have e:b=it:=by simpa using hb
  subst e
  obtain ⟨o,e,c,d⟩:=st
  exact ⟨o,e,fun v z=>by rw [d] at z;cases z⟩
 keep:=fun i h h' st k=>st.at fun o e=>k it (by simp) o e
 item:=by
  intro X hP hw hK hc i pins s σ H E I hf st hg
  subst hP hw hK
  obtain ⟨xs,x,hq,hx⟩:=hg
  obtain ⟨its,rv,p,hz⟩:=I.list hq
  obtain ⟨u,hu,ru⟩:=rv.get hx
  obtain ⟨f0,f1,f2,f3,f4,f5⟩:=hf it (by simp)
  refine wpAny_pyNext_list_item st p.isList (x:=u) (by simpa using hu) fun h' st' sb=>?_
  have I1:Inv X pins σ H { s with heap:=h' }:=I.turned (t':=s.toks) (fun b o hb e=>(sb.2 b hb).trans e) f0 f1 f3 f4 f5
  obtain ⟨o,e,c,d⟩:=id st'
  exact ⟨u,rfl,z1c (s:={ s with heap:=h' }) e c d (by decide) ⟨x,H,I1,ru,⟨rfl,fun ys hy=>by rw [I.list_inj hy hq];exact hx⟩,st',fun b hb=>(hf b hb).1⟩⟩
 done:=by
  intro X hP hw hK hc i pins s σ H E I hf st hg
  subst hP hw hK
  obtain ⟨xs,hq,hx⟩:=hg
  obtain ⟨its,rv,p,hz⟩:=I.list hq
  obtain ⟨f0,f1,f2,f3,f4,f5⟩:=hf it (by simp)
  have hl:=rv.length
  exact wpAny_pyNext_list_end (I.ok.hd hc) st p.isList (by simp;lia) fun h' eb=>⟨rfl,I.turned (t':=s.toks) (fun b o hb e=>eb b o hb e) f0 f1 f3 f4 f5⟩
 self:=fun _ _ _ _ _ st h=>wpAny_pyIter_listiter st h
theorem Qf {P:Program} {w:World} {K:ko} {tg:Expr} (it:Addr) (lo:Int) (n:Nat):Turn P w K tg (Itr lo n) [it] it (fun i h=>IsRangeIter h it (lo+(i:Nat) * 1) ((n:Int) - (i:Nat)) 1) where
 mem:=by simp
 obj:=fun i h st b hb=>by
  have e:b=it:=by simpa using hb
  subst e
  exact ⟨_,st,fun v z=>by
   have z':Data.fields _=Data.cell v:=z
   cases z'⟩
 keep:=fun i h h' st k=>k it (by simp) _ st
 item:=by
  intro X hP hw hK hc i pins s σ H E I hf st hg
  subst hP hw hK
  obtain ⟨f0,f1,f2,f3,f4,f5⟩:=hf it (by simp)
  have W:=Walks.range (prog:=X.prog) (w:=X.w) (I.ok.hd hc) it lo 1 n
  refine W.item i s _ _ hg st fun v h' tk hv st' kk=>?_
  obtain ⟨t,rfl⟩:=hv
  have I1:Inv X pins σ H { s with heap:=h',toks:=tk }:=I.turned (fun b o hb e=>kk b o (by simpa using hb) e) f0 f1 f3 f4 f5
  refine ⟨_,rfl,z1c (s:={ s with heap:=h',toks:=tk }) (n:="range_iterator") st' rfl rfl (by decide) ⟨.int (lo+i),H,I1,⟨t,?_⟩,⟨rfl,rfl⟩,st',fun b hb=>(hf b hb).1⟩⟩
  rw [Int.mul_one]
 done:=by
  intro X hP hw hK hc i pins s σ H E I hf st hg
  subst hP hw hK
  obtain ⟨f0,f1,f2,f3,f4,f5⟩:=hf it (by simp)
  exact wpAny_pyNext_range_end (I.ok.hd hc) st (by have:n≤i:=hg;lia) fun h' eb=>⟨rfl,I.turned (t':=s.toks) (fun b o hb e=>eb b o hb e) f0 f1 f3 f4 f5⟩
 self:=fun _ _ _ _ _ st h=>wpAny_pyIter_rangeiter st h
end L2
namespace L2
open PySem PySem.Spec PyProof.Rows
section
variable {X:Cx} {tg:Expr}
def z2M (K:ko) (tl:TE):TI:=fun σ H R=>tl σ H fun x H1=>∃a,x=.ref a∧(∃xs,SqL K H1 a xs)∧R (Itl K a) H1
theorem qx {l:Expr} {tl:TE} (hl:PE X l tl):PI X tg l (z2M X.K tl):=by
 intro pins s σ H R I h
 refine thn (hl pins s σ H _ I h) fun v s1 zz=>?_
 obtain ⟨x,H1,I1,r1,q1⟩:=zz
 obtain ⟨a,e,⟨xs,hq⟩,q⟩:=q1
 subst e
 cases r1
 obtain ⟨its,rv,p,hz⟩:=I1.list hq
 refine wpAny_pyIter_list p.isList ?_
 refine ⟨s1.heap.objs.size,[s1.heap.objs.size],_,_,H1,rfl,I1.kept (t':=s1.toks) fun b o e=>Heap.get?_push_of_some _ e,Qx a _,⟨_,Heap.get?_push_size _ rfl,rfl,rfl⟩,fun b hb=>?_,q⟩
 have e:b=s1.heap.objs.size:=by simpa using hb
 subst e
 exact I1.fpOk (kc _) (I1.hok.fresh (kc _))
theorem ZR {pins:List (Addr × Obj)} {σ:St} {H:Hp} {s:Shared} {R:It→Hp→Prop} {E:Value→Shared→Prop} {lo hi:Int} {t u v:Tok} {tk:Nat} (I:Inv X pins σ H s) (h1: -(2 ^ 62)≤lo) (h2:lo < 2 ^ 62) (h3: -(2 ^ 62)≤hi) (h4:hi < 2 ^ 62)
  (q:R (Itr lo (hi - lo).toNat) H):wpAny (model X.prog X.w) X.A (pyIter (.ref s.heap.objs.size)) (PIE X pins σ tg R) E { s with heap:=s.heap.push { cls:=.type "range",data:=.fields #[.int lo t,.int hi u,.int 1 v] },toks:=tk }:=by
 refine wpAny_pyIter_range (IsRange.new ..) (small_one h1 h2 h3 h4) ?_
 have I1:Inv X pins σ H { s with heap:=s.heap.push { cls:=.type "range",data:=.fields #[.int lo t,.int hi u,.int 1 v] },toks:=tk }:=I.kept fun b o e=>Heap.get?_push_of_some _ e
 refine ⟨(s.heap.push { cls:=.type "range",data:=.fields #[.int lo t,.int hi u,.int 1 v] }).objs.size,[(s.heap.push { cls:=.type "range",data:=.fields #[.int lo t,.int hi u,.int 1 v] }).objs.size],_,_,H,rfl,
  I1.kept (t':=tk) fun b o e=>Heap.get?_push_of_some _ e,Qf _ lo (hi - lo).toNat,?_,fun b hb=>?_,q⟩
 ·have e1:lo+((0:Nat):Int) * 1=lo:=by simp
  have e2:(((hi - lo).toNat:Nat):Int) - ((0:Nat):Int)=Builtin.Range.rangeSize lo hi 1:=by rw [rangeSize_one];split <;> lia
  show IsRangeIter _ _ (lo+((0:Nat):Int) * 1) ((((hi - lo).toNat:Nat):Int) - ((0:Nat):Int)) 1
  rw [e1,e2]
  exact Heap.get?_push_size _ rfl
 ·have e:b=(s.heap.push { cls:=.type "range",data:=.fields #[.int lo t,.int hi u,.int 1 v] }).objs.size:=by simpa using hb
  subst e
  exact I1.fpOk (kc _) (I1.hok.fresh (kc _))
def z2L (ta:TA):TI:=fun σ H R=>ta σ H fun vs H1=>∃j:Int,vs=[.int j]∧-(2 ^ 62)≤j∧j < 2 ^ 62∧R (Itr 0 j.toNat) H1
def z2K (ta:TA):TI:=fun σ H R=>ta σ H fun vs H1=>∃i j:Int,vs=[.int i,.int j]∧(-(2 ^ 62)≤i∧i < 2 ^ 62∧-(2 ^ 62)≤j∧j < 2 ^ 62)∧R (Itr i (j - i).toNat) H1
theorem qS {a:Expr} {ta:TA} {p pos:Pos} (hg:Gl X "range") (hm:X.mg "range"=none) (ha:PA X [a] ta) (hs:autoParam (starEach [a] X.env=[(false,eval a X.env)]) aR._auto_1):PI X tg (.Call (.Name "range" p) [a] [] pos) (z2L ta):=by
 intro pins s σ H R I h
 refine Call_ (qv I hg hm boot_range (PyProof.Rows.callWith_type1 (thn (ha pos pins s σ H _ I h) fun us s1 ⟨vs,H1,I1,r1,q1⟩=>?_) hs rfl))
 obtain ⟨j,e,q1,q2,q⟩:=q1
 subst e
 cases r1 with
 | cons r rr=>
  cases rr
  obtain ⟨t,rfl⟩:=r
  exact call_range_1 (ZR I1 (by lia) (by lia) q1 q2 (by simpa using q))
theorem jY {a b:Expr} {ta:TA} {p pos:Pos} (hg:Gl X "range") (hm:X.mg "range"=none) (ha:PA X [a,b] ta) (hs:autoParam (starEach [a,b] X.env=[(false,eval a X.env),(false,eval b X.env)]) aR._auto_1) (hs2:autoParam (starEach [b] X.env=[(false,eval b X.env)]) aR._auto_1):
  PI X tg (.Call (.Name "range" p) [a,b] [] pos) (z2K ta):=by
 intro pins s σ H R I h
 refine Call_ (qv I hg hm boot_range (PyProof.Rows.callWith_type1 (thn (ha pos pins s σ H _ I h) fun us s1 ⟨vs,H1,I1,r1,q1⟩=>?_) (by rw [hs,hs2]) (by rw [hs2];rfl)))
 obtain ⟨i,j,e,⟨q1,q2,q3,q4⟩,q⟩:=q1
 subst e
 cases r1 with
 | cons r rr=>
  cases rr with
  | cons r' rr=>
   cases rr
   obtain ⟨t,rfl⟩:=r
   obtain ⟨t',rfl⟩:=r'
   exact call_range_2 (ZR I1 q1 q2 q3 q4 q)
def tFor (wi:TI) (g:TG) (tb:TS):TS:=fun D σ H=>wi σ H fun J H1=>∃W:Nat→Nat→St→Hp→Prop,(∃m,W 0 m σ H1)∧∀i m σ H,W i m σ H→
 (J.stop i H∧D.nx σ H)∨(J.go i H∧∃N:St→Hp→Prop,(∀σ' H',N σ' H'→∃m',m' < m∧W (i+1) m' σ' H')∧∀x H',J.yld i H x H'→g x σ H' fun σ2 H2=>tb { D with nx:=N,ct:=N,bk:=D.nx } σ2 H2)
noncomputable def jX (fp:List Addr) (h:Heap):List (Addr × Obj):=fp.filterMap fun b=>(h.get? b).map fun o=>(b,o)
theorem qh {fp:List Addr} {h:Heap} {b:Addr} {o:Obj} (hb:b∈fp) (e:h.get? b=some o):(b,o)∈jX fp h:=List.mem_filterMap.mpr ⟨b,hb,by rw [e];rfl⟩
theorem QV {fp:List Addr} {h:Heap} {p:Addr × Obj} (hp:p∈jX fp h):p.1∈fp∧h.get? p.1=some p.2:=by
 obtain ⟨b,hb,e⟩:=List.mem_filterMap.mp hp
 cases q:h.get? b with
 | none=>rw [q] at e;cases e
 | some o=>
  rw [q] at e
  have e':(b,o)=p:=kt e
  subst e'
  exact ⟨hb,q⟩
theorem Inv.pinned {pins:List (Addr × Obj)} {σ:St} {H:Hp} {s:Shared} {fp:List Addr} (I:Inv X pins σ H s) (hf:∀b∈fp,FpOk X pins H b) (ho:∀b∈fp,∃o,s.heap.get? b=some o∧∀v,o.data≠.cell v):Inv X (pins++jX fp s.heap) σ H s:=
 I.pins_of fun p hp=>(kK.mp hp).elim (fun z=>I.pin p (kF _ z)) fun z=>by
  obtain ⟨hb,e⟩:=QV z
  obtain ⟨f0,f1,f2,_⟩:=hf p.1 hb
  obtain ⟨o,e',d⟩:=ho p.1 hb
  rw [e] at e';cases e'
  exact ⟨e,f0,f1,f2,d⟩
theorem Inv.unpinned {pins pl:List (Addr × Obj)} {σ:St} {H:Hp} {s:Shared} (I:Inv X (pins++pl) σ H s):Inv X pins σ H s:=I.pins_of fun p hp=>I.pin p (kF _ (kG _ hp))
theorem jW {iter:Expr} {body:List Stmt} {wi:TI} {g:TG} {tb:TS} {pos:Pos} (hp:PassesOwn (model X.prog X.w) X.A X.env X.xe) (hc:X.calm=true) (hi:PI X tg iter wi) (hg:PG X tg g) (hb:PSs X body tb)
  (hs:∀x,foldedSetIterable iter X.env x=pure x:=by intro _;rfl):PS X (.For tg iter body [] pos) (tFor wi g tb):=by
 intro pins s σ H D I h
 refine wpAny_For (thn (hi pins s σ H _ I h) fun v s1 h1=>thn h1 fun itv s2 h2=>?_) hs
 obtain ⟨it,fp,tn,J,H2,e,I2,T,st2,f2,W,⟨m0,w0⟩,turn⟩:=h2
 subst e
 have stat:∀{H':Hp},(∀b∈fp,H' b=none)→∀b∈fp,FpOk X pins H' b:=fun hn b hb=>⟨hn b hb,(f2 b hb).2⟩
 refine codeAny_forLoop_any (fun n s'=>∃i σ' H',Inv X pins σ' H' s'∧tn i s'.heap∧(∀b∈fp,H' b=none)∧W i n σ' H') ?_ m0 ⟨0,σ,H2,I2,st2,fun b hb=>(f2 b hb).1,w0⟩
 rintro n s3 ⟨i,σ3,H3,I3,st3,fr3,w3⟩
 rcases turn i n σ3 H3 w3 with ⟨stop,qn⟩ | ⟨go,N,hN,step⟩
 ·refine wpAny_passesOwn hp (thn (T.done X rfl rfl rfl hc i pins s3 σ3 H3 X.xe I3 (stat fr3) st3 stop) fun r s4 zz=>?_)
  obtain ⟨hr,I4⟩:=zz
  subst hr
  exact wpAny_execs_nil ⟨σ3,H3,I4,qn⟩
 ·refine wpAny_passesOwn hp (thn (T.item X rfl rfl rfl hc i pins s3 σ3 H3 X.xe I3 (stat fr3) st3 go) fun r s4 zz=>?_)
  obtain ⟨u,hr,h4⟩:=zz
  subst hr
  refine wpAny_passesOwn hp (thn h4 fun _ s5 zz=>?_)
  obtain ⟨x,H5,I5,r5,y5,st5,fr5⟩:=zz
  have I5':=I5.pinned (stat fr5) (T.obj _ _ st5)
  refine wpAny_passesOwn hp (thn (hg _ s5 σ3 H5 x u _ I5' r5 (step x H5 y5)) fun _ s6 zz=>?_)
  obtain ⟨σ6,H6,I6,q6⟩:=zz
  refine wpAny_passesOwn hp (thn (hb _ s6 σ6 H6 _ I6 q6) fun f s7 q7=>?_)
  have again:∀{σ7:St} {H7:Hp},Inv X (pins++jX fp s5.heap) σ7 H7 s7→N σ7 H7→∃m,m < n∧∃i σ' H',Inv X pins σ' H' s7∧tn i s7.heap∧(∀b∈fp,H' b=none)∧W i m σ' H':=fun {σ7 H7} I7 n7=>by
   obtain ⟨m',hm,w7⟩:=hN σ7 H7 n7
   refine ⟨m',hm,i+1,σ7,H7,I7.unpinned,T.keep _ _ _ st5 fun b hb o e=>(I7.pin (b,o) (kF _ (kF _ (qh hb e)))).1,fun b hb=>?_,w7⟩
   obtain ⟨o,e,d⟩:=T.obj _ _ st5 b hb
   exact (I7.pin (b,o) (kF _ (kF _ (qh hb e)))).2.1
  cases f with
  | next=>obtain ⟨σ7,H7,I7,n7⟩:=q7;exact again I7 n7
  | cont=>obtain ⟨σ7,H7,I7,n7⟩:=q7;exact again I7 n7
  | brk=>obtain ⟨σ7,H7,I7,q7⟩:=q7;exact ⟨σ7,H7,I7.unpinned,q7⟩
  | ret v=>obtain ⟨x7,σ7,H7,I7,r7,q7⟩:=q7;exact ⟨x7,σ7,H7,I7.unpinned,r7,q7⟩
end
theorem z03 {K:ko} {a:Addr} {xs:List V} {g:TG} {tb:TS} {D:Ends} {σ:St} {H:Hp} (Pv:Nat→St→Hp→Prop) (h0:Pv 0 σ H) (hl:∀i σ H,i≤xs.length→Pv i σ H→SqL K H a xs)
  (hs:∀i x σ H,xs[i]?=some x→Pv i σ H→g x σ H fun σ2 H2=>tb { D with nx:=Pv (i+1),ct:=Pv (i+1),bk:=D.nx } σ2 H2) (hd:∀σ H,Pv xs.length σ H→D.nx σ H):
  ∃W:Nat→Nat→St→Hp→Prop,(∃m,W 0 m σ H)∧∀i m σ H,W i m σ H→
   ((Itl K a).stop i H∧D.nx σ H)∨((Itl K a).go i H∧∃N:St→Hp→Prop,(∀σ' H',N σ' H'→∃m',m' < m∧W (i+1) m' σ' H')∧∀x H',(Itl K a).yld i H x H'→g x σ H' fun σ2 H2=>tb { D with nx:=N,ct:=N,bk:=D.nx } σ2 H2):=by
 refine ⟨fun i m σ H=>m=xs.length - i∧i≤xs.length∧Pv i σ H,⟨xs.length,by simp,Nat.zero_le _,h0⟩,?_⟩
 rintro i m σ H ⟨rfl,hi,p⟩
 have q:=hl i σ H hi p
 by_cases hlt:i < xs.length
 ·refine .inr ⟨⟨xs,xs[i],q,by simp [hlt]⟩,Pv (i+1),fun σ' H' p'=>⟨xs.length - (i+1),by lia,rfl,hlt,p'⟩,fun x H' y=>?_⟩
  obtain ⟨e,y⟩:=y
  subst e
  exact hs i x σ _ (y xs q) p
 ·have e:i=xs.length:=by lia
  subst e
  exact .inl ⟨⟨xs,q,kc _⟩,hd σ H p⟩
theorem qZ {lo:Int} {n:Nat} {g:TG} {tb:TS} {D:Ends} {σ:St} {H:Hp} (Pv:Nat→St→Hp→Prop) (h0:Pv 0 σ H)
  (hs:∀i σ H,i < n→Pv i σ H→g (.int (lo+i)) σ H fun σ2 H2=>tb { D with nx:=Pv (i+1),ct:=Pv (i+1),bk:=D.nx } σ2 H2) (hd:∀σ H,Pv n σ H→D.nx σ H):
  ∃W:Nat→Nat→St→Hp→Prop,(∃m,W 0 m σ H)∧∀i m σ H,W i m σ H→
   ((Itr lo n).stop i H∧D.nx σ H)∨((Itr lo n).go i H∧∃N:St→Hp→Prop,(∀σ' H',N σ' H'→∃m',m' < m∧W (i+1) m' σ' H')∧∀x H',(Itr lo n).yld i H x H'→g x σ H' fun σ2 H2=>tb { D with nx:=N,ct:=N,bk:=D.nx } σ2 H2):=by
 refine ⟨fun i m σ H=>m=n - i∧i≤n∧Pv i σ H,⟨n,by simp,Nat.zero_le _,h0⟩,?_⟩
 rintro i m σ H ⟨rfl,hi,p⟩
 by_cases hlt:i < n
 ·refine .inr ⟨hlt,Pv (i+1),fun σ' H' p'=>⟨n - (i+1),by lia,rfl,hlt,p'⟩,fun x H' y=>?_⟩
  obtain ⟨e,y⟩:=y
  subst e y
  exact hs i σ _ hlt p
 ·have e:i=n:=by lia
  subst e
  exact .inl ⟨kc _,hd σ H p⟩
end L2
namespace L2
open PySem PySem.Spec PyProof.Rows
abbrev R2:=V→V→Hp→VK→Prop
def OpR (X:Cx) (f:Value→Value→Sem Value) (r:R2):Prop:=
 ∀(pins:List (Addr × Obj)) (s:Shared) (σ:St) (H:Hp) (x y:V) (v u:Value) (Q:VK),Inv X pins σ H s→RelV x v→RelV y u→r x y H Q→
  wpAny (model X.prog X.w) X.A (f v u) (EP X pins σ Q) X.xe s
def UnR (X:Cx) (f:Value→Sem Value) (r:V→Hp→VK→Prop):Prop:=
 ∀(pins:List (Addr × Obj)) (s:Shared) (σ:St) (H:Hp) (x:V) (v:Value) (Q:VK),Inv X pins σ H s→RelV x v→r x H Q→
  wpAny (model X.prog X.w) X.A (f v) (EP X pins σ Q) X.xe s
def qK (X:Cx) (f:Value) (r:List V→Hp→VK→Prop):Prop:=
 ∀(pins:List (Addr × Obj)) (s:Shared) (σ:St) (H:Hp) (xs:List V) (us:List Value) (Q:VK),Inv X pins σ H s→Vals xs us→r xs H Q→
  wpAny (model X.prog X.w) X.A (call f us) (EP X pins σ Q) X.xe s
def TruR (X:Cx) (r:V→Hp→(Bool→Hp→Prop)→Prop):Prop:=
 ∀(pins:List (Addr × Obj)) (s:Shared) (σ:St) (H:Hp) (x:V) (v:Value) (Q:Bool→Hp→Prop),Inv X pins σ H s→RelV x v→r x H Q→
  wpAny (model X.prog X.w) X.A (truthy v) (TP X pins σ Q) X.xe s
def tOp (r:R2) (ta tb:TE):TE:=fun σ H Q=>ta σ H fun x H1=>tb σ H1 fun y H2=>r x y H2 Q
def tUn (r:V→Hp→VK→Prop) (ta:TE):TE:=fun σ H Q=>ta σ H fun x H1=>r x H1 Q
def rI (C:Int→Int→Prop) (g:Int→Int→V):R2:=fun x y H Q=>∃i j,x=.int i∧y=.int j∧C i j∧Q (g i j) H
def rI0 (g:Int→Int→V):R2:=fun x y H Q=>∃i j,x=.int i∧y=.int j∧Q (g i j) H
def rU (g:Int→V):V→Hp→VK→Prop:=fun x H Q=>∃i,x=.int i∧Q (g i) H
section
variable {X:Cx} {a b c:Expr} {ta tb tc:TE} {pos:Pos}
theorem binT (ha:PE X a ta) (hb:PE X b tb) {pins:List (Addr × Obj)} {s:Shared} {σ:St} {H:Hp} {R:V→V→Hp→Prop} (I:Inv X pins σ H s)
  (h:ta σ H fun x H1=>tb σ H1 fun y H2=>R x y H2) {Q:Value→Shared→Prop} {f:Value→Value→Sem Value}
  (hf:∀v u s2 x y H2,Inv X pins σ H2 s2→RelV x v→RelV y u→R x y H2→wpAny (model X.prog X.w) X.A (f v u) Q X.xe s2):
  wpAny (model X.prog X.w) X.A (eval a X.env) (fun v s₁=>wpAny (model X.prog X.w) X.A (eval b X.env) (fun u s₂=>wpAny (model X.prog X.w) X.A (f v u) Q X.xe s₂) X.xe s₁) X.xe s:=by
 refine thn (ha pins s σ H _ I h) fun v s1 zz=>?_
 obtain ⟨x,H1,I1,r1,q1⟩:=zz
 refine thn (hb pins s1 σ H1 _ I1 q1) fun u s2 zz=>?_
 obtain ⟨y,H2,I2,r2,q2⟩:=zz
 exact hf v u s2 x y H2 I2 r1 r2 q2
theorem zr {op:Operator} {r:R2} (ho:OpR X (binaryOp op) r) (ha:PE X a ta) (hb:PE X b tb):PE X (.BinOp a op b pos) (tOp r ta tb):=by
 intro pins s σ H Q I h
 exact wpAny_BinOp (binT ha hb I h fun v u s2 x y H2 I2 rx ry q=>ho pins s2 σ H2 x y v u Q I2 rx ry q)
theorem z0X {op:UnaryOp} {r:V→Hp→VK→Prop} (ho:UnR X (unaryOp op) r) (ha:PE X a ta):PE X (.UnaryOp op a pos) (tUn r ta):=by
 intro pins s σ H Q I h
 exact UnaryOp_ (thn (ha pins s σ H _ I h) fun v s1 ⟨x,H1,I1,r1,q1⟩=>ho pins s1 σ H1 x v Q I1 r1 q1)
theorem opI {f:Value→Value→Sem Value} {C:Int→Int→Prop} {g:Int→Int→Int}
  (rule:∀(i j:Int) (t u:Tok) (s:Shared) (Q:Value→Shared→Prop) (E:Value→Shared→Prop),C i j→Q (.int (g i j) s.toks) { s with toks:=s.toks+1 }→wpAny (model X.prog X.w) X.A (f (.int i t) (.int j u)) Q E s):
  OpR X f (rI C fun i j=>.int (g i j)):=by
 intro pins s σ H x y v u Q I rx ry h
 obtain ⟨i,j,rfl,rfl,hc,q⟩:=h
 obtain ⟨t,rfl⟩:=rx
 obtain ⟨t',rfl⟩:=ry
 exact rule i j t t' s _ _ hc ⟨.int (g i j),H,I.tok _,⟨_,rfl⟩,q⟩
theorem opI0 {f:Value→Value→Sem Value} {g:Int→Int→Int}
  (rule:∀(i j:Int) (t u:Tok) (s:Shared) (Q:Value→Shared→Prop) (E:Value→Shared→Prop),Q (.int (g i j) s.toks) { s with toks:=s.toks+1 }→wpAny (model X.prog X.w) X.A (f (.int i t) (.int j u)) Q E s):
  OpR X f (rI0 fun i j=>.int (g i j)):=by
 intro pins s σ H x y v u Q I rx ry h
 obtain ⟨i,j,rfl,rfl,q⟩:=h
 obtain ⟨t,rfl⟩:=rx
 obtain ⟨t',rfl⟩:=ry
 exact rule i j t t' s _ _ ⟨.int (g i j),H,I.tok _,⟨_,rfl⟩,q⟩
theorem opB0 {f:Value→Value→Sem Value} {g:Int→Int→Bool}
  (rule:∀(i j:Int) (t u:Tok) (s:Shared) (Q:Value→Shared→Prop) (E:Value→Shared→Prop),Q (.bool (g i j)) s→wpAny (model X.prog X.w) X.A (f (.int i t) (.int j u)) Q E s):
  OpR X f (rI0 fun i j=>.bl (g i j)):=by
 intro pins s σ H x y v u Q I rx ry h
 obtain ⟨i,j,rfl,rfl,q⟩:=h
 obtain ⟨t,rfl⟩:=rx
 obtain ⟨t',rfl⟩:=ry
 exact rule i j t t' s _ _ ⟨.bl (g i j),H,I,rfl,q⟩
def CDiv (i j:Int):Prop:=0 < j∧j < 1073741824
def CPow (i j:Int):Prop:=0≤j∧j≤1000000∧i.natAbs < 2 ^ 64
def CMul (i j:Int):Prop:=(-(2 ^ 64) < i∧i < 2 ^ 64)∨(-(2 ^ 64) < j∧j < 2 ^ 64)
theorem CMul.ok {i j:Int} (h:CMul i j):IntMulOk i j:=by
 rcases h with ⟨h1,h2⟩ | ⟨h1,h2⟩
 ·exact .of_left (intBits_le_64 h1 h2)
 ·exact .of_right (intBits_le_64 h1 h2)
theorem zV:OpR X (binaryOp .Add) (rI0 fun i j=>.int (i+j)):=opI0 fun _ _ _ _ _ _ _ q=>add_int q
theorem ji:OpR X (binaryOp .Sub) (rI0 fun i j=>.int (i - j)):=opI0 fun _ _ _ _ _ _ _ q=>sub_int q
theorem ZZ:OpR X (binaryOp .Mult) (rI CMul fun i j=>.int (i * j)):=opI fun _ _ _ _ _ _ _ hc q=>mul_int q hc.ok
theorem jA:OpR X (binaryOp .FloorDiv) (rI CDiv fun i j=>.int (i / j)):=opI fun i j _ _ _ _ _ hc q=>by
 have h1:(0:Int) < j:=hc.1
 have h2:j < 1073741824:=hc.2
 exact floordiv_int (by lia) (by rw [Int.fdiv_eq_ediv_of_nonneg i (by lia)];exact q) (.inl (PyProof.noPylong_small (by lia)))
theorem qT:OpR X (binaryOp .Mod) (rI (fun _ j=>0 < j) fun i j=>.int (i % j)):=opI fun i j _ _ _ _ _ hc q=>by
 have h1:(0:Int) < j:=hc
 exact mod_int' (by lia) (by rw [Int.fmod_eq_emod_of_nonneg i (by lia)];exact q)
theorem z0w:OpR X (binaryOp .Pow) (rI CPow fun i j=>.int (i ^ j.toNat)):=opI fun _ _ _ _ _ _ _ hc q=>pow_int_small hc.1 hc.2.1 hc.2.2 q
theorem unI {f:Value→Sem Value} {g:Int→Int}
  (rule:∀(i:Int) (t:Tok) (s:Shared) (Q:Value→Shared→Prop) (E:Value→Shared→Prop),Q (.int (g i) s.toks) { s with toks:=s.toks+1 }→wpAny (model X.prog X.w) X.A (f (.int i t)) Q E s):
  UnR X f (rU fun i=>.int (g i)):=by
 intro pins s σ H x v Q I rx h
 obtain ⟨i,rfl,q⟩:=h
 obtain ⟨t,rfl⟩:=rx
 exact rule i t s _ _ ⟨.int (g i),H,I.tok _,⟨_,rfl⟩,q⟩
theorem Qw:UnR X (unaryOp .USub) (rU fun i=>.int (-i)):=unI fun _ _ _ _ _ q=>neg_int q
end
noncomputable def scal:V→V→Bool
 | .non,.non=>true | .non,.int _=>true | .int _,.non=>true | .non,.bl _=>true | .bl _,.non=>true | .non,.str _=>true | .str _,.non=>true
 | .int _,.int _=>true | .bl _,.bl _=>true | .str _,.str _=>true | .byt _,.byt _=>true
 | .int _,.str _=>true | .str _,.int _=>true | .bl _,.str _=>true | .str _,.bl _=>true
 | _,_=>false
def rEq:R2:=fun x y H Q=>scal x y=true∧Q (.bl (decide (x=y))) H
def rNe:R2:=fun x y H Q=>scal x y=true∧Q (.bl (!decide (x=y))) H
theorem Jm {i j:Int}:decide (V.int i=V.int j)=(i == j):=by
 rw [Bool.eq_iff_iff]
 simp
theorem z0H {i j:Bool}:decide (V.bl i=V.bl j)=(i == j):=by
 rw [Bool.eq_iff_iff]
 simp
theorem Jl {i j:Str}:decide (V.str i=V.str j)=(i == j):=by
 rw [Bool.eq_iff_iff]
 simp
theorem Jn {i j:Array UInt8}:decide (V.byt i=V.byt j)=(i.toList == j.toList):=by
 rw [Bool.eq_iff_iff]
 cases i
 cases j
 simp
section
variable {X:Cx} {a b c:Expr} {ta tb tc:TE} {pos:Pos}
theorem zn {pins:List (Addr × Obj)} {σ:St} {H:Hp} {s:Shared} {Q:VK} {k k':Bool} (I:Inv X pins σ H s) (q:Q (.bl k) H) (e:k=k'):EP X pins σ Q (.bool k') s:=by
 subst e
 exact ⟨.bl k,H,I,rfl,q⟩
theorem z2F:OpR X (compareOp .Eq) rEq:=by
 intro pins s σ H x y v u Q I rx ry h
 obtain ⟨hs,q⟩:=h
 cases x with
 | non=>
  cases rx
  cases y with
  | non=>cases ry;exact PySem.EqNone.eq_none_none (zn I q (by simp))
  | bl j=>cases ry;exact PySem.EqNone.eq_none_bool (zn I q (by simp))
  | int j=>obtain ⟨t',rfl⟩:=ry;exact PySem.EqNone.eq_none_int (zn I q (by simp))
  | str j=>obtain ⟨t',rfl⟩:=ry;exact PySem.EqNone.eq_none_str (zn I q (by simp))
  | _=>exact absurd (show false=true from hs) ka
 | bl i=>
  cases rx
  cases y with
  | non=>cases ry;exact PySem.EqNone.eq_bool_none (zn I q (by simp))
  | bl j=>cases ry;exact eq_bool (zn I q z0H)
  | str j=>obtain ⟨t',rfl⟩:=ry;exact PySem.EqMixed.eq_bool_str (zn I q (by simp))
  | _=>exact absurd (show false=true from hs) ka
 | int i=>
  obtain ⟨t,rfl⟩:=rx
  cases y with
  | non=>cases ry;exact PySem.EqNone.eq_int_none (zn I q (by simp))
  | int j=>obtain ⟨t',rfl⟩:=ry;exact eq_int (zn I q Jm)
  | str j=>obtain ⟨t',rfl⟩:=ry;exact PySem.EqMixed.eq_int_str (zn I q (by simp))
  | _=>exact absurd (show false=true from hs) ka
 | str i=>
  obtain ⟨t,rfl⟩:=rx
  cases y with
  | non=>cases ry;exact PySem.EqNone.eq_str_none (zn I q (by simp))
  | bl j=>cases ry;exact PySem.EqMixed.eq_str_bool (zn I q (by simp))
  | int j=>obtain ⟨t',rfl⟩:=ry;exact PySem.EqMixed.eq_str_int (zn I q (by simp))
  | str j=>obtain ⟨t',rfl⟩:=ry;exact eq_str (zn I q Jl)
  | _=>exact absurd (show false=true from hs) ka
 | byt i=>
  obtain ⟨t,rfl⟩:=rx
  cases y with
  | byt j=>obtain ⟨t',rfl⟩:=ry;exact PySem.W.eq_bytes (zn I q Jn)
  | _=>exact absurd (show false=true from hs) ka
 | _=>cases y <;> exact absurd (show false=true from hs) ka
theorem Qh:OpR X (compareOp .NotEq) rNe:=by
 intro pins s σ H x y v u Q I rx ry h
 obtain ⟨hs,q⟩:=h
 cases x with
 | non=>
  cases rx
  cases y with
  | non=>cases ry;exact PySem.EqNone.ne_none_none (zn I q (by simp))
  | bl j=>cases ry;exact PySem.EqNone.ne_none_bool (zn I q (by simp))
  | int j=>obtain ⟨t',rfl⟩:=ry;exact PySem.EqNone.ne_none_int (zn I q (by simp))
  | str j=>obtain ⟨t',rfl⟩:=ry;exact PySem.EqNone.ne_none_str (zn I q (by simp))
  | _=>exact absurd (show false=true from hs) ka
 | bl i=>
  cases rx
  cases y with
  | non=>cases ry;exact PySem.EqNone.ne_bool_none (zn I q (by simp))
  | bl j=>cases ry;exact ne_bool (zn I q (congrArg not z0H))
  | str j=>obtain ⟨t',rfl⟩:=ry;exact PySem.EqMixed.ne_bool_str (zn I q (by simp))
  | _=>exact absurd (show false=true from hs) ka
 | int i=>
  obtain ⟨t,rfl⟩:=rx
  cases y with
  | non=>cases ry;exact PySem.EqNone.ne_int_none (zn I q (by simp))
  | int j=>obtain ⟨t',rfl⟩:=ry;exact ne_int (zn I q (congrArg not Jm))
  | str j=>obtain ⟨t',rfl⟩:=ry;exact PySem.EqMixed.ne_int_str (zn I q (by simp))
  | _=>exact absurd (show false=true from hs) ka
 | str i=>
  obtain ⟨t,rfl⟩:=rx
  cases y with
  | non=>cases ry;exact PySem.EqNone.ne_str_none (zn I q (by simp))
  | bl j=>cases ry;exact PySem.EqMixed.ne_str_bool (zn I q (by simp))
  | int j=>obtain ⟨t',rfl⟩:=ry;exact PySem.EqMixed.ne_str_int (zn I q (by simp))
  | str j=>obtain ⟨t',rfl⟩:=ry;exact ne_str (zn I q (congrArg not Jl))
  | _=>exact absurd (show false=true from hs) ka
 | byt i=>
  obtain ⟨t,rfl⟩:=rx
  cases y with
  | byt j=>obtain ⟨t',rfl⟩:=ry;exact PySem.W.ne_bytes (zn I q (congrArg not Jn))
  | _=>exact absurd (show false=true from hs) ka
 | _=>cases y <;> exact absurd (show false=true from hs) ka
theorem z1X:OpR X (compareOp .Lt) (rI0 fun i j=>.bl (decide (i < j))):=opB0 fun _ _ _ _ _ _ _ q=>lt_int q
theorem JU:OpR X (compareOp .LtE) (rI0 fun i j=>.bl (decide (i≤j))):=opB0 fun _ _ _ _ _ _ _ q=>le_int q
theorem z10:OpR X (compareOp .Gt) (rI0 fun i j=>.bl (decide (j < i))):=opB0 fun _ _ _ _ _ _ _ q=>gt_int q
theorem z2E:OpR X (compareOp .GtE) (rI0 fun i j=>.bl (decide (j≤i))):=opB0 fun _ _ _ _ _ _ _ q=>ge_int q
theorem z1Y:OpR X (compareOp .Is) (fun x y H Q=>y=.non∧Q (.bl (decide (x=.non))) H):=by
 intro pins s σ H x y v u Q I rx ry h
 obtain ⟨rfl,q⟩:=h
 cases ry
 refine is_none_gen (zn I q ?_)
 cases x <;> first
  | (cases rx;rfl)
  | (obtain ⟨t,rfl⟩:=rx;rfl)
theorem z0Z:OpR X (compareOp .IsNot) (fun x y H Q=>y=.non∧Q (.bl (!decide (x=.non))) H):=by
 intro pins s σ H x y v u Q I rx ry h
 obtain ⟨rfl,q⟩:=h
 cases ry
 refine isnot_none_gen (zn I q ?_)
 cases x <;> first
  | (cases rx;rfl)
  | (obtain ⟨t,rfl⟩:=rx;rfl)
theorem zA (b:Expr) {op:CmpOp} (h:autoParam (op≠.In) aR._auto_2) (h2:autoParam (op≠.NotIn) aR._auto_2):behindInMarks op b=false:=by
 have e1:(op == CmpOp.In)=false:=by cases op <;> first | rfl | exact absurd rfl h
 have e2:(op == CmpOp.NotIn)=false:=by cases op <;> first | rfl | exact absurd rfl h2
 cases b <;> simp [behindInMarks,e1,e2]
theorem qy {op:CmpOp} {r:R2} (ho:OpR X (compareOp op) r) (ha:PE X a ta) (hb:PE X b tb) (hm:behindInMarks op b=false):PE X (.Compare a [op] [b] pos) (tOp r ta tb):=by
 intro pins s σ H Q I h
 exact wpAny_Compare1 (binT ha hb I h fun v u s2 x y H2 I2 rx ry q=>ho pins s2 σ H2 x y v u Q I2 rx ry q) hm
def z1B (t:TE):TT:=fun σ H Q=>t σ H fun x H'=>∃k,x=.bl k∧Q k H'
theorem zt {op:CmpOp} {r:R2} (ho:OpR X (compareOp op) r) (ha:PE X a ta) (hb:PE X b tb) (hm:behindInMarks op b=false):PT X (.Compare a [op] [b] pos) (z1B (tOp r ta tb)):=by
 intro pins s σ H Q I h
 refine wpAny_isTrue_Compare1 (thn (ha pins s σ H _ I h) fun v s1 ⟨x,H1,I1,r1,q1⟩=>thn (hb pins s1 σ H1 _ I1 q1) fun u s2 ⟨y,H2,I2,r2,q2⟩=>
  thn (ho pins s2 σ H2 x y v u _ I2 r1 r2 q2) fun c s3 ⟨z,H3,I3,r3,k,e,q3⟩=>?_) hm
 subst e
 cases r3
 exact wpAny_truthy_bool ⟨H3,I3,q3⟩
def z1H (r r':R2) (ta tb tc:TE):TE:=fun σ H Q=>ta σ H fun x H1=>tb σ H1 fun y H2=>r x y H2 fun z H3=>∃k,z=.bl k∧
 (if k=true then tc σ H3 fun w' H4=>r' y w' H4 Q else Q (.bl false) H3)
theorem ZT {op op':CmpOp} {r r':R2} (ho:OpR X (compareOp op) r) (ho':OpR X (compareOp op') r') (ha:PE X a ta) (hb:PE X b tb) (hc:PE X c tc)
  (hm:lastMarks [op,op'] [b,c]=false:=by with_unfolding_all rfl):PT X (.Compare a [op,op'] [b,c] pos) (z1B (z1H r r' ta tb tc)):=by
 intro pins s σ H Q I h
 refine isTrue_chain (thn (ha pins s σ H _ I h) fun v s1 ⟨x,H1,I1,r1,q1⟩=>test_link (thn (hb pins s1 σ H1 _ I1 q1) fun u s2 ⟨y,H2,I2,r2,q2⟩=>
  thn (ho pins s2 σ H2 x y v u _ I2 r1 r2 q2) fun d s3 ⟨z,H3,I3,r3,k,e,q3⟩=>?_)) hm
 subst e
 cases r3
 refine wpAny_truthy_bool ?_
 cases k with
 | false=>
  obtain ⟨k',e',q'⟩:=q3
  cases e'
  exact ite_ff ⟨H3,I3,q'⟩
 | true=>
  refine ite_tt (test_last (thn (hc pins s3 σ H3 _ I3 q3) fun w' s4 ⟨z',H4,I4,r4,q4⟩=>thn (ho' pins s4 σ H4 y z' u w' _ I4 r2 r4 q4) fun d' s5 zz=>?_))
  obtain ⟨z2,H5,I5,r5,k2,e2,q5⟩:=zz
  subst e2
  cases r5
  exact wpAny_truthy_bool ⟨H5,I5,q5⟩
def TruV (K:ko) (x:V) (H:Hp) (k:Bool):Prop:=
 match x with
 | .non=>k=false
 | .bl b=>k=b
 | .int i=>k=(i != 0)
 | .str y=>y.length≤sizeLine∧k=((y.length:Int) != 0)
 | .byt y=>y.size≤sizeLine∧k=((y.size:Int) != 0)
 | .ref p=>(∃xs,SqL K H p xs∧k= !xs.isEmpty)∨(∃xs,SqT K H p xs∧k= !xs.isEmpty)∨∃kvs,H p=some (.dK kvs)∧k= !kvs.isEmpty
 | _=>False
theorem Ql {κ:Type} {kvs:List (κ × V)} {vs:List (κ × Value)} (r:KV kvs vs):(!vs.isEmpty)= !kvs.isEmpty:=by
 cases r <;> rfl
theorem jn {xs:List V} {its:List Value} (r:Vals xs its):(!its.toArray.isEmpty)= !xs.isEmpty:=by
 cases r <;> simp
theorem Q2:(sizeLine:Nat) < 2 ^ 63:=by rw [sizeLine_eq];decide
theorem z1z:TruR X (fun x H Q=>∃k,TruV X.K x H k∧Q k H):=by
 intro pins s σ H x v Q I rx h
 obtain ⟨k,e,q⟩:=h
 have hl:=Q2
 have hs:sizeLine=16777216:=sizeLine_eq
 cases x with
 | non=>
  cases rx
  have e':k=false:=e
  subst e'
  exact truthy_none ⟨H,I,q⟩
 | bl b=>
  cases rx
  have e':k=b:=e
  subst e'
  exact wpAny_truthy_bool ⟨H,I,q⟩
 | int i=>
  obtain ⟨t,rfl⟩:=rx
  have e':k=(i != 0):=e
  subst e'
  exact PySem.P.truthy_int ⟨H,I,q⟩
 | str y=>
  obtain ⟨t,rfl⟩:=rx
  obtain ⟨hy,e'⟩:y.length≤sizeLine∧k=((y.length:Int) != 0):=e
  subst e'
  exact PySem.P.truthy_str (by lia) ⟨H,I.tok _,q⟩
 | byt y=>
  obtain ⟨t,rfl⟩:=rx
  obtain ⟨hy,e'⟩:y.size≤sizeLine∧k=((y.size:Int) != 0):=e
  subst e'
  exact PySem.W.truthy_bytes (by lia) ⟨H,I.tok _,q⟩
 | ref p=>
  cases rx
  have e':(∃xs,SqL X.K H p xs∧k= !xs.isEmpty)∨(∃xs,SqT X.K H p xs∧k= !xs.isEmpty)∨∃kvs,H p=some (.dK kvs)∧k= !kvs.isEmpty:=e
  rcases e' with ⟨xs,hx,e'⟩ | ⟨xs,hx,e'⟩ | ⟨kvs,hx,e'⟩
  ·subst e'
   obtain ⟨its,r,pl,hz⟩:=I.list hx
   have hlen:=r.length
   exact wpAny_truthy_list pl.isList (by simp only [kx];lia) ⟨H,I.tok _,by rw [jn r];exact q⟩
  ·subst e'
   obtain ⟨its,r,pl,hz⟩:=I.tuple hx
   have hlen:=r.length
   exact truthy_tuple pl (by simp only [kx];lia) ⟨H,I.tok _,by rw [jn r];exact q⟩
  ·subst e'
   obtain ⟨hz,hS,vs,r,m⟩:kvs.length≤sizeLine∧(p == sysModules)=false∧∃vs,KV kvs vs∧s.heap.DictOf (zw X.prog X.w) p vs:=I.hok p _ hx
   have hlen:kvs.length=vs.length:=Paired.length r
   exact wpAny_truthy_dict hS m (by lia) ⟨H,I.tok _,by rw [Ql r];exact q⟩
 | _=>exact (show False from e).elim
theorem JM (ha:PE X a ta) (he:∀whole,isTrue a X.env whole=(do let v ←whole;standAt a.pos;holding [v] (truthy v))):
  PT X a (fun σ H Q=>ta σ H fun x H'=>∃k,TruV X.K x H' k∧Q k H'):=by
 intro pins s σ H Q I h
 exact isTrue_plain (thn (ha pins s σ H _ I h) fun v s1 ⟨x,H1,I1,r1,q1⟩=>z1z pins s1 σ H1 x v Q I1 r1 q1) (he _)
theorem Zt {x:V} {us:List Value} (r:Vals [x] us):∃u,us=[u]∧RelV x u:=by
 cases r with
 | cons r1 r2=>cases r2;exact ⟨_,rfl,r1⟩
theorem z1x {x y:V} {us:List Value} (r:Vals [x,y] us):∃u w',us=[u,w']∧RelV x u∧RelV y w':=by
 cases r with
 | cons r1 r2=>
  cases r2 with
  | cons r3 r4=>cases r4;exact ⟨_,_,rfl,r1,r3⟩
end
end L2
namespace L2
open PySem PySem.Spec PyProof.Rows
structure ObjM (h:Heap) (x dx C:Addr) (mA:Str→Option Value):Prop where
 obj:h.get? x=some (PySem.W.instObj C dx)
 ns:h.Ns1 dx mA
 ne:dx≠x
theorem J7 {h:Heap} {dx:Addr} {mA:Str→Option Value} (n:h.Ns1 dx mA):∃od,h.get? dx=some od∧∀name,PySem.W.lookIn name od=some (mA name):=by
 obtain ⟨o,es,ep,ho,hd,hk,_,hm⟩:=n
 refine ⟨o,ho,fun name=>?_⟩
 have e:=hm name
 unfold nsFind findBy at e
 rw [←Array.find?_toList] at e
 unfold PySem.W.lookIn
 rw [hd]
 dsimp only
 split
 ·rename_i y q
  rw [q] at e
  exact congrArg some e
 ·rename_i q
  rw [q] at e
  have a:es.toList.any (·.refKey)=false:=by
   rw [List.any_eq_false]
   intro y hy
   obtain ⟨z,t,hkey⟩:=hk y (Array.mem_toList_iff.mp hy)
   simp [DictEntry.refKey,hkey]
  have a':¬es.toList.any (·.refKey)=true:=by rw [a];exact ka
  rw [kq a']
  exact congrArg some e
theorem ObjM.look {h:Heap} {x dx C:Addr} {mA:Str→Option Value} (I:ObjM h x dx C mA):∃od,PySem.W.InstAt h x (PySem.W.instObj C dx) C (some od)∧∀name,PySem.W.lookIn name od=some (mA name):=
 let ⟨od,ho,hl⟩:=J7 I.ns
 ⟨od,⟨I.obj,rfl,rfl,ho⟩,hl⟩
section
variable {prog:Program} {w:World} {A:Around} {E:Value→Shared→Prop} {s:Shared} {K:ko} {x dx C f:Addr} {mA:Str→Option Value} {name:Str} {v:Value}
end
section
variable {P:Program} {w:World} {H H':Hp} {h h':Heap} {a C dx:Addr} {fs fs':List (Str × V)}
theorem z1b (hok:HOk P w H h) (e:H a=some (.ins C dx fs)):∃mA,ObjM h a dx C mA∧(∀f,RelO (fs.lookup f) (mA f))∧PySem.Within mA (fs.map (·.1))∧fs.length≤1000∧H dx=some (.own a):=by
 obtain ⟨d,z,ne,ob,mA,n,r,q⟩:=(show zv P w H h a (.ins C dx fs) from hok a _ e)
 exact ⟨mA,⟨ob,n,ne⟩,r,q,z,d⟩
end
structure Cls (K:ko) (C:Addr):Prop where
 pg:PySem.W.plainGet K C Str.empty=true
 hd:PySem.W.hasDictIn K C=true
 po:PySem.W.plainOver K C=true
 sa:PySem.W.findIn K (.ref C) "__setattr__"=some (some (.builtin "object.__setattr__"))
theorem Cls.get {K:ko} {C:Addr} (c:Cls K C) (f:Str):PySem.W.plainGet K C f=true:=c.pg
section
variable {X:Cx} {pins:List (Addr × Obj)} {σ:St} {H:Hp} {s:Shared} {a C dx:Addr} {fs:List (Str × V)} {f:Str} {v:V} {A:Around} {E:Value→Shared→Prop}
end
section
variable {X:Cx} {o e value:Expr} {f:Str} {pos pos' tpos:Pos} {ta tv:TE}
end
section
variable {X:Cx} {pins:List (Addr × Obj)} {σ:St} {H:Hp} {s:Shared} {A:Around} {E:Value→Shared→Prop} {Q:Value→Shared→Prop} {c:Value} {b:Bool}
inductive TyOf (K:ko) (H:Hp):V→Value→Prop where
 | non:TyOf K H .non (.type "NoneType")
 | bl (x:Bool):TyOf K H (.bl x) (.type "bool")
 | int (i:Int):TyOf K H (.int i) (.type "int")
 | str (x:Str):TyOf K H (.str x) (.type "str")
 | flt (x:UInt64):TyOf K H (.flt x) (.type "float")
 | lst {a:Addr} {xs:List V} (e:H a=some (.lst xs)):TyOf K H (.ref a) (.type "list")
 | frz {a:Addr} {o:Obj} {xs:List V} (e:H a=some (.frz o (.lst xs))):TyOf K H (.ref a) (.type "list")
 | tup {a:Addr} {xs:List V} (e:H a=some (.tup xs)):TyOf K H (.ref a) (.type "tuple")
 | dK {a:Addr} {kvs:List (Key × V)} (e:H a=some (.dK kvs)):TyOf K H (.ref a) (.type "dict")
 | dT {a:Addr} {kvs:List (List Key × V)} (e:H a=some (.dT kvs)):TyOf K H (.ref a) (.type "dict")
 | ins {a C dx:Addr} {fs:List (Str × V)} (e:H a=some (.ins C dx fs)) (cl:Cls K C) (ha:PySem.W.findIn K (.ref C) "__class__"=some (some (.builtin "object.__class__")))
   (hn:PySem.W.specialIn K (.builtin "object.__class__") "__get__"=some (some (.builtin "getset_descriptor.__get__"))) (htk:PySem.W.takesIn K (.builtin "object.__class__")=some true)
   (hm:PySem.W.mroIn K C (.type "object")=some true):TyOf K H (.ref a) (.ref C)
theorem Jd {x:V} {u t:Value} (I:Inv X pins σ H s) (rx:RelV x u) (ty:TyOf X.K H x t) (e:PySem.W.kitOne X.K t c=some b) (h:∀tk,Q (.bool b) { s with toks:=tk }):
  wpAny (model X.prog X.w) A (call (.builtin "isinstance") [u,c]) Q E s:=by
 cases ty with
 | non=>cases (show u=Value.none from rx);exact PySem.W.kia_one PySem.W.kitx_none I.kIn True.intro e (fun z=>nomatch z) h
 | bl y=>cases (show u=Value.bool y from rx);exact PySem.W.kia_one PySem.W.kitx_bool I.kIn True.intro e (fun z=>nomatch z) h
 | int i=>obtain ⟨t,q⟩:=(show ∃t,u=Value.int i t from rx);cases q;exact PySem.W.kia_one PySem.W.kitx_int I.kIn True.intro e (fun z=>nomatch z) h
 | str y=>obtain ⟨t,q⟩:=(show ∃t,u=Value.str y t from rx);cases q;exact PySem.W.kia_one PySem.W.kitx_str I.kIn True.intro e (fun z=>nomatch z) h
 | flt y=>obtain ⟨t,q⟩:=(show ∃t,u=Value.float y t from rx);cases q;exact PySem.W.kia_one PySem.W.kitx_float I.kIn True.intro e (fun z=>nomatch z) h
 | @lst a xs ea=>
  cases (show u=Value.ref a from rx)
  obtain ⟨_,_,n,_,h1⟩:=(show zv X.prog X.w H s.heap a (.lst xs) from I.hok a _ ea)
  exact PySem.W.kia_one PySem.W.kitx_list I.kIn ⟨_,h1,rfl⟩ e (fun z=>nomatch z) h
 | @frz a ob xs ea=>
  cases (show u=Value.ref a from rx)
  obtain ⟨_,_,_,n,_,h1⟩:=(show zv X.prog X.w H s.heap a (.frz ob (.lst xs)) from I.hok a _ ea)
  exact PySem.W.kia_one PySem.W.kitx_list I.kIn ⟨_,h1,rfl⟩ e (fun z=>nomatch z) h
 | @tup a xs ea=>
  cases (show u=Value.ref a from rx)
  obtain ⟨_,_,_,p⟩:=(show zv X.prog X.w H s.heap a (.tup xs) from I.hok a _ ea)
  obtain ⟨o,h1,h2,_⟩:=p
  exact PySem.W.kia_one PySem.W.kitx_tuple I.kIn ⟨o,h1,h2⟩ e (fun z=>nomatch z) h
 | @dK a kvs ea=>
  cases (show u=Value.ref a from rx)
  obtain ⟨_,_,vs,_,p⟩:=(show zv X.prog X.w H s.heap a (.dK kvs) from I.hok a _ ea)
  obtain ⟨o,es,ep,h1,h2,_⟩:=p
  exact PySem.W.kia_one PySem.W.kitx_dict I.kIn ⟨o,h1,h2.1⟩ e (fun z=>nomatch z) h
 | @dT a kvs ea=>
  cases (show u=Value.ref a from rx)
  obtain ⟨_,_,xs,_,o,es,ep,h1,h2,_⟩:=(show zv X.prog X.w H s.heap a (.dT kvs) from I.hok a _ ea)
  exact PySem.W.kia_one PySem.W.kitx_dict I.kIn ⟨o,h1,h2.1⟩ e (fun z=>nomatch z) h
 | @ins a C dx fs ea cl ha hn htk hm=>
  cases (show u=Value.ref a from rx)
  obtain ⟨mA,O,_⟩:=z1b I.hok ea
  obtain ⟨od,J,_⟩:=O.look
  exact PySem.W.kia_one (PySem.W.kitx_own (cl.get _) cl.hd ha hn htk hm) I.kIn J e (fun z=>nomatch z) h
end
end L2
namespace L2
open PySem PySem.Spec PyProof.Rows
structure Room (k:Nat) (A:Around):Prop where
 hd:A.handled=none
 dp:A.depth+3 * k+5 < recursionLimit
 un:A.units+16 * k+200 < cLine
 gd:A.guards=some []
theorem Room.mono {j k:Nat} {A:Around} (r:Room k A) (h:j≤k):Room j A:=⟨r.hd,by have:=r.dp;lia,by have:=r.un;lia,r.gd⟩
theorem Room.deeper {k:Nat} {A:Around} (r:Room (k+1) A) (env:Env):Room k (A.deeper env):=
 ⟨r.hd,by have:=r.dp;show A.depth+1+3 * k+5 < _;lia,by have:=r.un;show A.units+3+16 * k+200 < _;lia,r.gd⟩
theorem Room.depth {k:Nat} {A:Around} (r:Room k A):A.depth < recursionLimit:=by have:=r.dp;lia
theorem Room.units {k:Nat} {A:Around} (r:Room k A):A.units+64 < cLine:=by have:=r.un;lia
theorem Room.units0 {k:Nat} {A:Around} (r:Room k A):A.units < cLine:=by have:=r.un;lia
abbrev tNil:TA:=fun _ H Q=>Q [] H
abbrev z1G (ta:TE) (tr:TA):TA:=fun σ H Q=>ta σ H fun x H1=>tr σ H1 fun xs H2=>Q (x :: xs) H2
section
variable {X:Cx} {e:Expr} {es:List Expr} {te:TE} {t:TA} {pos:Pos}
theorem z5:PA X [] tNil:=fun _ _ _ _ H Q I h=>Calls.spliced_nil ⟨[],H,I,.nil,h⟩
theorem z3 (ha:PE X e te) (hr:PA X es t) (hs:autoParam (starEach (e :: es) X.env=(false,eval e X.env) :: starEach es X.env) aR._auto_1):PA X (e :: es) (z1G te t):=by
 intro pos pins s σ H Q I h
 rw [hs]
 show wpAny _ _ (spliced ((false,eval e X.env) :: backTo pos (starEach es X.env))) _ _ s
 refine Calls.spliced_cons (thn (ha pins s σ H _ I h) fun u s1 zz=>?_)
 obtain ⟨x,H1,I1,r1,q1⟩:=zz
 exact thn (hr pos pins s1 σ H1 _ I1 q1) fun us s2 ⟨xs,H2,I2,r2,q2⟩=>⟨x :: xs,H2,I2,.cons r1 r2,q2⟩
def tTup (t:TA):TE:=fun σ H Q=>t σ H fun xs H1=>xs.length≤sizeLine∧∀p,H1 p=none→Q (.ref p) (upd H1 p (.tup xs))
def tLst (t:TA):TE:=fun σ H Q=>t σ H fun xs H1=>xs.length≤sizeLine∧∀p,H1 p=none→Q (.ref p) (upd H1 p (.lst xs))
theorem ZW {x1} (h:PA X es t):PE X (.Tuple es x1 pos) (tTup t):=by
 intro pins s σ H Q I hq
 refine wpAny_Tuple_spliced (thn (h pos pins s σ H _ I hq) fun us s1 ⟨xs,H1,I1,r,z,q⟩=>⟨by rw [←r.length];exact z,?_⟩)
 have hf:H1 s1.heap.objs.size=none:=I1.hok.fresh (kc _)
 refine ⟨.ref s1.heap.objs.size,upd H1 s1.heap.objs.size (.tup xs),I1.laid (t':=s1.toks) (fun b u e=>Heap.get?_push_of_some _ e) (kc _) ?_,rfl,q _ hf⟩
 exact ⟨z,us,r,⟨_,Heap.get?_push_size _ rfl,rfl,_,rfl⟩⟩
theorem zH (h:PA X es t):PE X (.List es pos) (tLst t):=by
 intro pins s σ H Q I hq
 refine wpAny_List_spliced (thn (h pos pins s σ H _ I hq) fun us s1 ⟨xs,H1,I1,r,z,q⟩=>⟨by rw [←r.length];exact z,?_⟩)
 have hf:H1 s1.heap.objs.size=none:=I1.hok.fresh (kc _)
 refine ⟨.ref s1.heap.objs.size,upd H1 s1.heap.objs.size (.lst xs),I1.laid (t':=s1.toks) (fun b u e=>Heap.get?_push_of_some _ e) (kc _) ?_,rfl,q _ hf⟩
 exact ⟨z,us,0,r,Heap.get?_push_size _ rfl⟩
end
abbrev Sp:=List V→Hp→VK→XK→Prop
abbrev CXT:=List Env→Hp→Shared→XK→Value→Shared→Prop
structure Env0 (P:Program) (w:World) (K:ko) (mg:Str→Option Value) (base:Heap) (A:Around) (outer:List Env) (s:Shared) (H:Hp):Prop where
 frames:A.frames=some outer
 mod:Mod K mg base
 bs:∀b o,base.get? b=some o→s.heap.get? b=some o∧H b=none
 bsz:base.objs.size≤s.heap.objs.size
 funs:s.heap.FunFrames base outer
 frf:∀b∈frs outer,H b=none
 hok:HOk P w H s.heap
 bare:AllBare s.gens
def CE (outer:List Env) (P:Program) (w:World) (H:Hp) (s:Shared) (Q:VK) (u:Value) (s':Shared):Prop:=
 ∃v H',s'.os=s.os∧AllBare s'.gens∧Un (frs outer) [] H H' s.heap s'.heap∧HOk P w H' s'.heap∧RelV v u∧Q v H'
def CR (CX:CXT) (outer:List Env) (P:Program) (w:World) (H:Hp) (s:Shared) (Q:VK) (E:XK) (r:Result) (s':Shared):Prop:=
 match r with
 | .ok (.ret u)=>CE outer P w H s Q u s'
 | .ok _=>False
 | .error e=>CX outer H s E e s'
structure FnOk (P:Program) (w:World) (K:ko) (mg:Str→Option Value) (base:Heap) (CX:CXT) (k:Nat) (f:Addr) (fd:FuncData) (ps:List Str) (sp:Sp):Prop where
 len:∀vs H Q E,sp vs H Q E→vs.length=ps.length
 run:∀(A:Around) (outer:List Env) (s:Shared) (H:Hp) (args:Args) (us:List Value) (vs:List V) (Q:VK) (E:XK),Room k A→Env0 P w K mg base A outer s H→BindsTo s fd args (ps.zip us)→Vals vs us→sp vs H Q E→
  codeAny (model P w) A (.call (.ref f) args) (CR CX outer P w H s Q E) s
section
variable {X:Cx} {pins:List (Addr × Obj)} {σ:St} {H:Hp} {s s':Shared}
theorem Inv.env0 (I:Inv X pins σ H s):Env0 X.prog X.w X.K X.mg X.base X.A X.stack s H:=
 ⟨I.ok.frames,I.ok.mod,I.bs,km I.ok.bsz I.sz,I.stack,I.stkFree,I.hok,I.bare⟩
theorem Inv.after {Q:VK} {u:Value} (I:Inv X pins σ H s) (h:CE X.stack X.prog X.w H s Q u s'):EP X pins σ Q u s':=by
 obtain ⟨v,H',os,bare,un,hok,r,q⟩:=h
 obtain ⟨hh,g,d,t,os'⟩:=s'
 obtain rfl:os'=s.os:=os
 exact ⟨v,H',I.call (h':=hh) (g':=g) (d':=d) (t':=t) (ch:=[]) un hok bare (fun b z=>absurd z (by simp)),r,q⟩
end
abbrev JF (sp:Sp) (dvs:List V) (E:XK) (t:TA):TE:=fun σ H Q=>t σ H fun vs H1=>sp (vs++dvs) H1 Q E
def Zr (K:ko) (fd:FuncData) (ps:List Str) (ds:List Value):Prop:=
 ∀(s:Shared) (us:List Value),K.In s.heap→(us++ds).length=ps.length→BindsTo s fd ⟨us,[]⟩ (ps.zip (us++ds))
theorem Zr.all {K:ko} {fd:FuncData} {ps:List Str} (h:∀us:List Value,us.length=ps.length→bindArgs fd ⟨us,[]⟩=pure (ps.zip us)):Zr K fd ps []:=fun s us _ hl=>by
 rw [kM] at hl ⊢
 exact .of_eq (h us hl)
def Qd (CX:CXT) (X:Cx) (E:XK):Prop:=∀(pins:List (Addr × Obj)) (σ:St) (H:Hp) (s:Shared) (e:Value) (s':Shared),Inv X pins σ H s→CX X.stack H s E e s'→X.xe e s'
section
variable {X:Cx} {CX:CXT} {k:Nat} {f C:Addr} {fd:FuncData} {ps:List Str} {sp:Sp} {dvs:List V} {ds:List Value} {E:XK} {x m:Str} {p pos apos:Pos} {e o:Expr} {es:List Expr} {ta:TE} {t:TA}
theorem z1N {pins:List (Addr × Obj)} {σ:St} {H:Hp} {s:Shared} {Q:VK} {us:List Value} {vs:List V} (F:FnOk X.prog X.w X.K X.mg X.base CX k f fd ps sp) (hr:Room k X.A) (hb:Zr X.K fd ps ds) (hd:Vals dvs ds) (hx:Qd CX X E)
  (I:Inv X pins σ H s) (r:Vals vs us) (h:sp (vs++dvs) H Q E):wpAny (model X.prog X.w) X.A (call (.ref f) us) (EP X pins σ Q) X.xe s:=by
 have r2:Vals (vs++dvs) (us++ds):=r.append hd
 have hl:(us++ds).length=ps.length:=by rw [←r2.length];exact F.len _ _ _ _ h
 refine wpAny_call (codeAny_mono (F.run X.A X.stack s H ⟨us,[]⟩ (us++ds) (vs++dvs) Q E hr I.env0 (hb s us I.kIn hl) r2 h) fun r s' hq=>?_)
 cases r with
 | error e=>exact hx pins σ H s e s' I hq
 | ok fl=>
  cases fl with
  | ret u=>exact I.after hq
  | next=>exact False.elim hq
  | brk=>exact False.elim hq
  | cont=>exact False.elim hq
theorem QU (F:FnOk X.prog X.w X.K X.mg X.base CX k f fd ps sp) (hr:Room k X.A) (hg:Gl X x) (hm:X.mg x=some (.ref f)) (hk:PySem.W.keepIn X.K (.ref f)=true) (hb:Zr X.K fd ps ds) (hd:Vals dvs ds) (hx:Qd CX X E)
  (ha:PA X (e :: es) t) (hdb:autoParam ((x == ("__debug__":Str))=false) aR._auto_2) (he:autoParam (starEach (e :: es) X.env=(false,eval e X.env) :: starEach es X.env) aR._auto_1) (hpl:autoParam ((backTo pos (starEach es X.env)).any (·.1)=false) aR._auto_1):
  PE X (.Call (.Name x p) (e :: es) [] pos) (JF sp dvs E t):=by
 intro pins s σ H Q I h
 refine wpAny_Call_Name_kw (qX I hg hm ?_ hdb)
 refine PySem.W.callWith_K (h₀:=X.base) I.ok.mod.kin hk (thn (ha pos pins s σ H _ I h) fun us s1 ⟨vs,H1,I1,r,q⟩=>⟨I1.kIn,?_⟩) he hpl
 exact z1N F hr hb hd hx I1 r q
end
section
variable {X:Cx} {CX:CXT} {k:Nat} {f C:Addr} {fd:FuncData} {ps ks:List Str} {sp:Sp} {E:XK} {x m:Str} {p pos apos kpos:Pos} {e o:Expr} {es:List Expr} {kws:List Keyword} {te ta:TE} {t tk:TA} {nm:Option Str}
variable {g:List Value→List Value→List Value} {gV:List V→List V→List V}
end
structure zl (N P:List Str) (sc:Scope):Prop where
 kind:sc.kind=.function
 co:sc.isCoroutine=false
 gen:sc.isGenerator=false
 nd:N.Nodup
 pre:N.take P.length=P
 par:∀x∈P,sc.names.lookup x=some .local∨sc.names.lookup x=some .cell
 nofree:∀y∈sc.names,y.2≠.free
theorem Zm {kindOf:Str→Option NameKind} {x:Str}:∀{binds:List (Str × Value)} {m:Str→Option Value},(∀v,(x,v)∉binds)→bindL kindOf binds m x=m x
 | [],_,_=>rfl
 | (n,v) :: r,m,h=>by
  unfold bindL
  rw [Zm fun w hw=>h w (kJ _ hw)]
  split
  ·have:x≠n:=by rintro rfl;exact h v kI
   simp [this]
  ·rfl
theorem Zo {kindOf:Str→Option NameKind} {x:Str}:∀{binds:List (Str × Value)} {m:Str→Option Value},(∀v,(x,v)∉binds)→bindC kindOf binds m x=m x
 | [],_,_=>rfl
 | (n,v) :: r,m,h=>by
  unfold bindC
  rw [Zo fun w hw=>h w (kJ _ hw)]
  split
  ·rfl
  ·have:x≠n:=by rintro rfl;exact h v kI
   simp [this]
theorem Zn {kindOf:Str→Option NameKind} {x:Str} {v:Value}:∀{P:List Str} {vs:List Value} {i:Nat} {m:Str→Option Value},P.Nodup→P[i]?=some x→vs[i]?=some v→kindOf x=some .local→
  bindL kindOf (P.zip vs) m x=some v
 | [],_,_,_,_,h,_,_=>by simp at h
 | _ :: _,[],_,_,_,_,h,_=>by simp at h
 | p :: P,w :: vs,0,m,nd,h1,h2,hk=>by
  simp at h1 h2;subst h1;subst h2
  show bindL kindOf ((p,w) :: P.zip vs) m p=_
  unfold bindL
  rw [Zm fun v hv=>(List.nodup_cons.mp nd).1 (List.of_mem_zip hv).1,kr hk]
  simp
 | p :: P,w :: vs,i+1,m,nd,h1,h2,hk=>by
  show bindL kindOf ((p,w) :: P.zip vs) m x=_
  unfold bindL
  exact Zn (i:=i) (List.nodup_cons.mp nd).2 (by simpa using h1) (by simpa using h2) hk
theorem Zp {kindOf:Str→Option NameKind} {x:Str} {v:Value}:∀{P:List Str} {vs:List Value} {i:Nat} {m:Str→Option Value},P.Nodup→P[i]?=some x→vs[i]?=some v→kindOf x≠some .local→
  bindC kindOf (P.zip vs) m x=some v
 | [],_,_,_,_,h,_,_=>by simp at h
 | _ :: _,[],_,_,_,_,h,_=>by simp at h
 | p :: P,w :: vs,0,m,nd,h1,h2,hk=>by
  simp at h1 h2;subst h1;subst h2
  show bindC kindOf ((p,w) :: P.zip vs) m p=_
  unfold bindC
  rw [Zo fun v hv=>(List.nodup_cons.mp nd).1 (List.of_mem_zip hv).1,kq hk]
  simp
 | p :: P,w :: vs,i+1,m,nd,h1,h2,hk=>by
  show bindC kindOf ((p,w) :: P.zip vs) m x=_
  unfold bindC
  exact Zp (i:=i) (List.nodup_cons.mp nd).2 (by simpa using h1) (by simpa using h2) hk
noncomputable def start (N:List Str) (vs:List V):St:=vs.map some++List.replicate (N.length - vs.length) none
noncomputable def cxOf (CX:CXT) (P:Program) (w:World) (K:ko) (mg:Str→Option Value) (base:Heap) (N:List Str) (qual:Str) (scope:Scope) (f:Addr) (cd:Value) (A:Around) (outer:List Env) (s:Shared) (H:Hp) (E:XK):Cx where
 prog:=P
 w:=w
 K:=K
 mg:=mg
 base:=base
 A:=A.deeper (envOfC qual scope s.heap.objs.size f cd)
 N:=N
 s₀:=s
 H₀:=H
 env:=envOfC qual scope s.heap.objs.size f cd
 outer:=outer
 stack:=envOfC qual scope s.heap.objs.size f cd :: outer
 ex:=[]
 calm:=true
 fn:=fun _=>true
 pn:=[]
 xe:=fun e s'=>wpAny (model P w) (A.deeper (envOfC qual scope s.heap.objs.size f cd)) (leaving (envOfC qual scope s.heap.objs.size f cd) e) (fun _ s''=>CX outer H s E e s'') (fun e' s''=>CX outer H s E e' s'') s'
theorem Qb {sc:Scope} {n:Nat} {x:Str} (h:sc.names.lookup x=some .cell):∃c,(cellsFrom n sc.names []).lookup x=some c:=by
 have q:=PySem.W.cellsFrom_some sc.names n [] (.inl h)
 exact Option.isSome_iff_exists.mp q
theorem Je {CX:CXT} {P:Program} {w:World} {K:ko} {mg:Str→Option Value} {base:Heap} {N ps:List Str} {qual:Str} {scope:Scope} {f:Addr} {cd:Value} {A:Around} {outer:List Env} {s s1:Shared} {H:Hp} {E:XK} {us:List Value} {vs:List V}
  (S:zl N ps scope) (hd:A.handled=none) (e0:Env0 P w K mg base A outer s H) (hl:vs.length=ps.length) (r:Vals vs us)
  (x:InCallC s s.heap.objs.size (bindL (envOfC qual scope s.heap.objs.size f cd).kindOf (ps.zip us) fun _=>none) (cellsFrom (s.heap.objs.size+1) scope.names []) (bindC (envOfC qual scope s.heap.objs.size f cd).kindOf (ps.zip us) fun _=>none) s1):
  Inv (cxOf CX P w K mg base N qual scope f cd A outer s H E) [] (start N vs) H s1:=by
 have hpl:ps.length≤N.length:=by have:=congrArg List.length S.pre;rw [List.length_take] at this;lia
 obtain ⟨h1,tk,rfl,hk⟩:=x.done
 have noA:∀b:Addr,b∉(cxOf CX P w K mg base N qual scope f cd A outer s H E).ex:=fun b z=>absurd (show b∈([]:List Addr) from z) (by simp)
 refine ⟨⟨e0.mod,S.kind,rfl,rfl,kc _,fun y z c h1 h2=>?_,fun y hy=>?_,fun y c _ h=>?_,fun _=>hd,Around.frames_deeper e0.frames,.inr ⟨rfl,rfl⟩,fun b z=>absurd z (noA b),e0.bs,e0.bsz,fun b _ _=>noA b,fun b z=>absurd z (noA b),e0.funs,e0.frf⟩,
  rfl,e0.bare,Un.kept hk,⟨_,x.toInCall.ns,fun i y v h1 h2 h3=>?_⟩,fun y c h=>⟨_,x.cell y c h⟩,e0.hok.fresh (kc _),fun y c h=>?_,fun p hp=>absurd (show p∈([]:List (Addr × Obj)) from hp) (by simp),e0.hok.kept hk,?_⟩
 ·exact name_of_addr x.apart (PySem.mem_of_lookup h1) (PySem.mem_of_lookup h2)
 ·have hy:scope.names.lookup y=some .cell∨scope.names.lookup y=some .free:=hy
  rcases hy with hy | hy
  ·exact Qb hy
  ·exact absurd rfl (S.nofree _ (PySem.mem_of_lookup hy))
 ·exact Nat.le_of_lt (x.above y c (PySem.mem_of_lookup h))
 ·have hi:i < vs.length:=by
   unfold start at h2
   by_cases hi:i < vs.length
   ·exact hi
   ·rw [kY (by simpa using hi)] at h2
    rw [List.getElem?_replicate] at h2
    split at h2 <;> cases h2
  have ha:vs[i]?=some v:=by
   unfold start at h2
   rw [kX (by simpa using hi),List.getElem?_map] at h2
   cases e:vs[i]? with
   | none=>rw [e] at h2;cases h2
   | some a=>rw [e] at h2;cases h2;rfl
  obtain ⟨u,hu,rv⟩:=r.get ha
  have hp:ps[i]?=some y:=by
   rw [←S.pre,List.getElem?_take_of_lt (by lia)];exact h1
  have ndP:ps.Nodup:=by rw [←S.pre];exact S.nd.sublist (List.take_sublist _ _)
  refine ⟨u,rv,?_⟩
  rcases S.par y (kz hp) with k | k
  ·exact .inl ⟨k,Zn ndP hp hu k⟩
  ·obtain ⟨c,e⟩:=Qb (n:=s.heap.objs.size+1) k
   refine .inr ⟨.inl k,c,e,?_⟩
   have q:=x.cell y c e
   rw [Zp ndP hp hu (by show scope.names.lookup y≠_;rw [k];decide)] at q
   exact q
 ·exact e0.hok.fresh (Nat.le_of_lt (x.above y c (PySem.mem_of_lookup h)))
 ·unfold start
  show _=N.length
  rw [kh,kg,List.length_replicate]
  lia
theorem z2e {CX:CXT} {P:Program} {w:World} {K:ko} {mg:Str→Option Value} {base:Heap} {k:Nat} {f:Addr} {name qual:Str} {params:Arguments} {body:List Stmt} {scope:Scope} {dV kV doc pm cdv ct oc:Value} {an od:Option Addr}
  {osl:Array (Option Value)} {N ps:List Str} {sp:Sp} (lk:K.lookup f=some ⟨oc,od,.func (PySem.W.fnOf name qual params body scope dV kV doc pm an cdv ct),osl⟩) (hcd:PySem.W.codeIn K cdv qual=true) (S:zl N ps scope)
  (len:∀vs H Q E,sp vs H Q E→vs.length=ps.length)
  (hbody:∀(A:Around) (outer:List Env) (s:Shared) (H:Hp) (vs:List V) (Q:VK) (E:XK),Room k (A.deeper (envOfC qual scope s.heap.objs.size f cdv))→sp vs H Q E→
   ∃t,PSs (cxOf CX P w K mg base N qual scope f cdv A outer s H E) body t∧t { nx:=fun _ H'=>Q .non H',rt:=Q } (start N vs) H):
  FnOk P w K mg base CX (k+1) f (PySem.W.fnOf name qual params body scope dV kV doc pm an cdv ct) ps sp:=by
 refine ⟨len,fun A outer s H args us vs Q E hr e0 hb r hsp=>?_⟩
 have hl:=len _ _ _ _ hsp
 have KX:K.In s.heap:=e0.mod.kin.keeps fun b o e=>(e0.bs b o e).1
 have lim:s.heap.NoLimit:=e0.mod.nolimit.keeps fun b o e=>(e0.bs b o e).1
 have hkind:∀y∈ps.zip us,scope.names.lookup y.1=some .local∨(scope.names.lookup y.1=some .cell∧((cellsFrom (s.heap.objs.size+1) scope.names []).lookup y.1).isSome=true):=fun ⟨n,v⟩ hy=>by
  rcases S.par n (List.of_mem_zip hy).1 with q | q
  ·exact .inl q
  ·exact .inr ⟨q,PySem.W.cellsFrom_some _ _ _ (.inl q)⟩
 refine codeAny_call_function hr.depth (KX _ _ lk) rfl S.co S.gen rfl (PySem.W.codeRec_of KX hcd) (hb _ _ _ _ ?_)
 refine wpAny_newFunctionEnv_cells S.kind hkind fun env he s1 x=>?_
 subst he
 refine ⟨lim.keeps x.toInCall.keep,codeAny_func ?_⟩
 obtain ⟨t,ht,hq⟩:=hbody A outer s H vs Q E (hr.deeper _) hsp
 have I:Inv (cxOf CX P w K mg base N qual scope f cdv A outer s H E) [] (start N vs) H s1:=Je S hr.hd e0 hl r x
 refine wpAny_mono (ht [] s1 (start N vs) H _ I hq) (fun fl s' hs=>?_) fun e s' hs=>hs
 have fin:∀{σ':St} {H':Hp} {v:V} {u:Value},Inv (cxOf CX P w K mg base N qual scope f cdv A outer s H E) [] σ' H' s'→RelV v u→Q v H'→CE outer P w H s Q u s':=
  fun {σ' H' v u} J rv q=>⟨v,H',J.os,J.bare,J.base,J.hok,rv,q⟩
 cases fl with
 | ret u=>
  obtain ⟨v,σ',H',J,rv,q⟩:=hs
  exact fin J rv q
 | next=>
  obtain ⟨σ',H',J,q⟩:=hs
  exact fin (v:=V.non) (u:=Value.none) J rfl q
 | brk=>
  obtain ⟨_,_,_,q⟩:=hs
  exact False.elim q
 | cont=>
  obtain ⟨_,_,_,q⟩:=hs
  exact False.elim q
end L2
namespace L2
open PySem PySem.Spec PyProof.Rows
section
variable {X:Cx} {x:Str} {p pos:Pos} {e:Expr} {es:List Expr} {t:TA} {id T:String} {r:List V→Hp→VK→Prop}
def tCB (r:List V→Hp→VK→Prop) (t:TA):TE:=fun σ H Q=>t σ H fun vs H1=>r vs H1 Q
theorem zg (hc:qK X (.builtin id) r) (hg:Gl X x) (hm:X.mg x=none) (hv:bootBuiltins x=some (.builtin id)) (ha:PA X (e :: es) t) (hn:autoParam (x≠"__name__") aR._auto_2) (hdb:autoParam ((x == ("__debug__":Str))=false) aR._auto_2)
  (he:autoParam (starEach (e :: es) X.env=(false,eval e X.env) :: starEach es X.env) aR._auto_1) (hpl:autoParam ((backTo pos (starEach es X.env)).any (·.1)=false) aR._auto_1):PE X (.Call (.Name x p) (e :: es) [] pos) (tCB r t):=by
 intro pins s σ H Q I h
 refine wpAny_Call_Name_kw (qv I hg hm hv ?_ hn hdb)
 exact PyProof.Rows.callWith_builtin1 (thn (ha pos pins s σ H _ I h) fun us s1 ⟨vs,H1,I1,r1,q1⟩=>hc pins s1 σ H1 vs us Q I1 r1 q1) he hpl
theorem zJ (hc:qK X (.type T) r) (hg:Gl X x) (hm:X.mg x=none) (hv:bootBuiltins x=some (.type T)) (ha:PA X (e :: es) t) (hn:autoParam (x≠"__name__") aR._auto_2) (hdb:autoParam ((x == ("__debug__":Str))=false) aR._auto_2)
  (he:autoParam (starEach (e :: es) X.env=(false,eval e X.env) :: starEach es X.env) aR._auto_1) (hpl:autoParam ((backTo pos (starEach es X.env)).any (·.1)=false) aR._auto_1):PE X (.Call (.Name x p) (e :: es) [] pos) (tCB r t):=by
 intro pins s σ H Q I h
 refine wpAny_Call_Name_kw (qv I hg hm hv ?_ hn hdb)
 exact PyProof.Rows.callWith_type1 (thn (ha pos pins s σ H _ I h) fun us s1 ⟨vs,H1,I1,r1,q1⟩=>hc pins s1 σ H1 vs us Q I1 r1 q1) he hpl
end
end L2
namespace HT
open PySem PyProof.Rows
section
open PySem.SeqAt
open PySem.AutoSeq1 (wpAny_loadPart')
open PySem.MeetsSeq PySem.MeetsSeq2 PySem.MeetsSeq3
end
section
variable {prog:Program} {w:World} {A:Around} {E:Value→Shared→Prop} {s:Shared}
end
end HT
namespace L2
open PySem PySem.Spec PyProof.Rows
theorem Qm {ns:List Int}:∀{us:List Value},Vals (ns.map V.int) us→IntsAre us ns:=by
 induction ns with
 | nil=>intro us r;rw [List.map_nil] at r;cases r;exact .nil
 | cons n ns ih=>
  intro us r
  rw [kL] at r
  cases r with
  | cons r1 r2=>
   obtain ⟨t,e⟩:=r1
   subst e
   exact .cons n t (ih r2)
section
variable {X:Cx} {e:Expr} {te:TE} {lo hi:Option Expr} {tl th:TO} {pos p2:Pos}
end
end L2
namespace L2
open PySem PySem.Spec PyProof.Rows
noncomputable def ixN (n:Nat) (i:Int):Option Nat:=if 0≤i then (if i < n then some i.toNat else none) else if -(n:Int)≤i then some (i+n).toNat else none
noncomputable def atI {α:Type} (xs:List α) (i:Int):Option α:=(ixN xs.length i).bind fun j=>xs[j]?
theorem Jc {n:Nat} {i:Int} {j:Nat} (h:ixN n i=some j):seqIndex? i n=some j∧j < n∧-(n:Int)≤i∧i < n:=by
 unfold ixN at h
 by_cases h0:0≤i
 ·rw [kr h0] at h
  by_cases h1:i < n
  ·rw [kr h1] at h
   have e:i.toNat=j:=kt h
   exact ⟨by rw [seqIndex_of h0 h1,e],by lia,by lia,h1⟩
  ·rw [kq h1] at h;cases h
 ·rw [kq h0] at h
  by_cases h1: -(n:Int)≤i
  ·rw [kr h1] at h
   have e:(i+n).toNat=j:=kt h
   exact ⟨by rw [seqIndex_neg (by lia) h1,e],by lia,h1,by lia⟩
  ·rw [kq h1] at h;cases h
theorem z1u {α:Type} {xs:List α} {i:Int} {v:α} (h:atI xs i=some v):∃j,seqIndex? i xs.length=some j∧xs[j]?=some v∧j < xs.length∧-(xs.length:Int)≤i∧i < xs.length:=by
 unfold atI at h
 cases e:ixN xs.length i with
 | none=>rw [e] at h;cases h
 | some j=>
  rw [e] at h
  obtain ⟨h1,h2,h3,h4⟩:=Jc e
  exact ⟨j,h1,h,h2,h3,h4⟩
theorem zq {α:Type} {xs:List α} {j:Nat} {v:α} (h:xs[j]?=some v):atI xs (j:Int)=some v:=by
 have hj:j < xs.length:=(kd.mp h).1
 have e:ixN xs.length (j:Int)=some j:=by
  unfold ixN
  rw [kr (by lia),kr (by lia)];simp
 unfold atI;rw [e];exact h
theorem z0h {α:Type} (xs:List α) (v:α):atI (xs++[v]) (-1)=some v:=by
 have hl:(xs++[v]).length=xs.length+1:=by simp
 have e:ixN (xs++[v]).length (-1)=some xs.length:=by
  unfold ixN
  rw [hl,kq (by decide),kr (by lia)]
  congr 1
  lia
 unfold atI
 rw [e]
 show (xs++[v])[xs.length]?=some v
 simp
def z1v (b:Expr):Prop:=∀o i,subscripted b false o i=operate [o,i] (getItem o i)
def IxR (X:Cx) (r:R2):Prop:=
 ∀(value slice:Expr) (pins:List (Addr × Obj)) (s:Shared) (σ:St) (H:Hp) (x y:V) (v u:Value) (Q:VK),Inv X pins σ H s→RelV x v→RelV y u→r x y H Q→
  subscripted slice false v u=operate [v,u] (getItem v u)→wpAny (model X.prog X.w) X.A (subscriptTail value slice v u) (EP X pins σ Q) X.xe s
def MtR (X:Cx) (id:String) (r:V→List V→Hp→VK→Prop):Prop:=
 ∀(pins:List (Addr × Obj)) (s:Shared) (σ:St) (H:Hp) (x:V) (xs:List V) (v:Value) (us:List Value) (Q:VK),Inv X pins σ H s→RelV x v→Vals xs us→r x xs H Q→
  wpAny (model X.prog X.w) X.A (call (.builtin id) (v :: us)) (EP X pins σ Q) X.xe s
section
variable {X:Cx} {a b:Expr} {ta tb:TE} {pos:Pos}
theorem zL {r:R2} (hr:IxR X r) (ha:PE X a ta) (hb:PE X b tb) (hs:z1v b):PE X (.Subscript a b pos) (tOp r ta tb):=by
 intro pins s σ H Q I h
 exact Subscript_ (binT ha hb I h fun v u s2 x y H2 I2 rx ry q=>hr a b pins s2 σ H2 x y v u Q I2 rx ry q (hs _ _))
def rIxL (K:ko):R2:=fun x y H Q=>∃p xs i v,x=.ref p∧y=.int i∧SqL K H p xs∧atI xs i=some v∧Q v H
theorem zp:IxR X (rIxL X.K):=by
 intro value slice pins s σ H x y v u Q I rx ry h hs
 obtain ⟨p,xs,i,z,rfl,rfl,hq,he,q⟩:=h
 cases rx
 obtain ⟨t,rfl⟩:=ry
 obtain ⟨its,r,pl,hz⟩:=I.list hq
 obtain ⟨j,h1,h2,h3,h4,h5⟩:=z1u he
 obtain ⟨w,ew,rw'⟩:=r.get h2
 have hl:=r.length
 have hn:=Q2
 have fin:EP X pins σ Q w s:=⟨z,H,I,rw',q⟩
 by_cases h0:0≤i
 ·have hj:i.toNat=j:=by
   rw [seqIndex_of h0 h5] at h1
   exact kt h1
  exact item_listR pl.isList h0 (by lia) (by rw [hj];simpa using ew) fin hs
 ·have hj:(i+(its.toArray.size:Int)).toNat=j:=by
   rw [seqIndex_neg (by lia) h4] at h1
   rw [kx,←hl]
   exact kt h1
  exact subscriptTail_builtinR (x:=w) pl.isList.typeIs slot_list_getitem.lookup
   (wpAny_getItem_list_neg (Q:=fun r s'=>r=w∧EP X pins σ Q r s') pl.isList (by lia) (by rw [kx] <;> lia) (by lia) (by rw [hj];simpa using ew) ⟨rfl,fin⟩) hs
theorem Qi (its:List Value) (n j:Nat) (u:Value):Obj.mapSeq (·.setIfInBounds j u) { cls:=.type "list",data:=.seq its.toArray n }={ cls:=.type "list",data:=.seq (its.set j u).toArray n }:=by
 simp [Obj.mapSeq]
theorem Inv.lst {pins:List (Addr × Obj)} {σ:St} {H:Hp} {s:Shared} {p:Addr} {xs:List V} (I:Inv X pins σ H s) (h:H p=some (.lst xs)):
  ∃(its:List Value) (n:Nat),Vals xs its∧s.heap.get? p=some { cls:=.type "list",data:=.seq its.toArray n }∧xs.length≤sizeLine:=by
 obtain ⟨z,its,n,r,e⟩:=I.hok p _ h
 exact ⟨its,n,r,e,z⟩
theorem Inv.lstUpd {pins:List (Addr × Obj)} {σ:St} {H:Hp} {s:Shared} {p:Addr} {xs ys:List V} {its its':List Value} {n n':Nat} {f:Obj→Obj} (I:Inv X pins σ H s) (h:H p=some (.lst xs))
  (ho:s.heap.get? p=some { cls:=.type "list",data:=.seq its.toArray n }) (hf:f { cls:=.type "list",data:=.seq its.toArray n }={ cls:=.type "list",data:=.seq its'.toArray n' }) (r:Vals ys its') (hz:ys.length≤sizeLine) (t:Nat):
  Inv X pins σ (upd H p (.lst ys)) { s with heap:=s.heap.update p f,toks:=t }:=by
 have e:(s.heap.update p f).get? p=some { cls:=.type "list",data:=.seq its'.toArray n' }:=by
  rw [Heap.get?_update_self f ho (by rw [hf] <;> rfl),hf]
 refine I.write (x:=p) (e:=p) (by rw [h];trivial) (.inl rfl) (fun b u hb q=>(Heap.get?_update_other _ _ (Ne.symm hb)).trans q) ⟨_,e⟩ ?_
 exact ⟨hz,its',n',r,e⟩
def z2B:V→V→V→Hp→(Hp→Prop)→Prop:=fun o i v H Q=>∃p xs k j,o=.ref p∧i=.int k∧H p=some (.lst xs)∧ixN xs.length k=some j∧Q (upd H p (.lst (xs.set j v)))
theorem zQ:PSet X z2B:=by
 intro pins s σ H o i v ov iv u Q I ro ri rv h
 obtain ⟨p,xs,k,j,rfl,rfl,hp,hj,q⟩:=h
 cases ro
 obtain ⟨t,rfl⟩:=ri
 obtain ⟨its,n,r,ho,hz⟩:=I.lst hp
 obtain ⟨h1,h2,h3,h4⟩:=Jc hj
 have hl:=r.length
 have hn:=Q2
 have I':Inv X pins σ (upd H p (.lst (xs.set j v))) { s with heap:=s.heap.update p (Obj.mapSeq (·.setIfInBounds j u)) }:=
  I.lstUpd hp ho (Qi its n j u) (r.set rv j) (by rw [List.length_set];exact hz) s.toks
 by_cases h0:0≤k
 ·have hk:k.toNat=j:=by
   rw [seqIndex_of h0 h4] at h1
   exact kt h1
  exact PySem.W.ki_setAt ho h0 (by lia) (by rw [kx,←hl];exact h4) (by rw [hk];exact ⟨_,I',q⟩)
 ·have hk:(k+(its.toArray.size:Int)).toNat=j:=by
   rw [seqIndex_neg (by lia) h3] at h1
   rw [kx,←hl]
   exact kt h1
  exact PySem.W.ki_setBack ho (by lia) (by rw [kx,←hl];exact h3) (by lia) (by rw [hk];exact ⟨_,I',q⟩)
noncomputable def j4:V→Bool
 | .non=>true
 | .bl _=>true
 | .int _=>true
 | .str _=>true
 | _=>false
noncomputable def eqV:V→V→Bool
 | .non,.non=>true
 | .bl a,.bl b=>a == b
 | .bl a,.int b=>(if a then 1 else 0) == b
 | .int a,.bl b=>a == (if b then 1 else 0)
 | .int a,.int b=>a == b
 | .str a,.str b=>a == b
 | _,_=>false
theorem z2j {A:Around} {s:Shared} {y x:V} {u v:Value} (ry:RelV y u) (rx:RelV x v) (fy:j4 y=true) (fx:j4 x=true):SeqAt.EqAt A s u v (eqV y x):=by
 cases y with
 | non=>
  cases ry
  cases x with
  | non=>cases rx;exact SeqAt.EqAt.same _
  | bl b=>cases rx;exact SeqAt.EqAt.none_bool b
  | int b=>obtain ⟨t,rfl⟩:=rx;exact SeqAt.EqAt.none_int b t
  | str b=>obtain ⟨t,rfl⟩:=rx;exact SeqAt.EqAt.none_str b t
  | _=>exact absurd (show false=true from fx) ka
 | bl a=>
  cases ry
  cases x with
  | non=>cases rx;exact SeqAt.EqAt.bool_none a
  | bl b=>cases rx;exact SeqAt.EqAt.bool_bool a b
  | int b=>obtain ⟨t,rfl⟩:=rx;exact SeqAt.EqAt.bool_int a b t
  | str b=>obtain ⟨t,rfl⟩:=rx;exact SeqAt.EqAt.bool_str a b t
  | _=>exact absurd (show false=true from fx) ka
 | int a=>
  obtain ⟨t',rfl⟩:=ry
  cases x with
  | non=>cases rx;exact SeqAt.EqAt.int_none a t'
  | bl b=>cases rx;exact SeqAt.EqAt.int_bool a t' b
  | int b=>obtain ⟨t,rfl⟩:=rx;exact SeqAt.EqAt.int_int a t' b t
  | str b=>obtain ⟨t,rfl⟩:=rx;exact SeqAt.EqAt.int_str a t' b t
  | _=>exact absurd (show false=true from fx) ka
 | str a=>
  obtain ⟨t',rfl⟩:=ry
  cases x with
  | non=>cases rx;exact SeqAt.EqAt.str_none a t'
  | bl b=>cases rx;exact SeqAt.EqAt.str_bool a t' b
  | int b=>obtain ⟨t,rfl⟩:=rx;exact SeqAt.EqAt.str_int a t' b t
  | str b=>obtain ⟨t,rfl⟩:=rx;exact SeqAt.EqAt.str_str a t' b t
  | _=>exact absurd (show false=true from fx) ka
 | _=>exact absurd (show false=true from fy) ka
noncomputable def eqU (x:V) (u:Value):Bool:=match u with
 | .none=>eqV .non x
 | .bool b=>eqV (.bl b) x
 | .int i _=>eqV (.int i) x
 | .str z _=>eqV (.str z) x
 | _=>false
theorem z0G {x y:V} {u:Value} (r:RelV y u) (f:j4 y=true):eqU x u=eqV y x:=by
 cases y with
 | non=>cases r;rfl
 | bl b=>cases r;rfl
 | int i=>obtain ⟨t,rfl⟩:=r;rfl
 | str z=>obtain ⟨t,rfl⟩:=r;rfl
 | _=>exact absurd (show false=true from f) ka
theorem ZL {x:V}:∀{xs:List V} {us:List Value},Vals xs us→xs.all j4=true→us.any (eqU x)=xs.any fun y=>eqV y x
 | _,_,.nil,_=>rfl
 | y :: xs,u :: us,.cons r t,f=>by
  rw [List.all_cons,kT] at f
  rw [List.any_cons,List.any_cons,z0G r f.1,ZL t f.2]
theorem jC {A:Around} {s:Shared} {x:V} {v:Value} (rx:RelV x v) (fx:j4 x=true):∀{xs:List V} {us:List Value},Vals xs us→xs.all j4=true→∀u∈us,SeqAt.EqAt A s u v (eqU x u)
 | _,_,.nil,_=>fun u hu=>by cases hu
 | y :: xs,u :: us,.cons r t,f=>fun u' hu=>by
  rw [List.all_cons,kT] at f
  rcases kw.mp hu with rfl | hu
  ·rw [z0G r f.1];exact z2j r rx f.1 fx
  ·exact jC rx fx t f.2 u' hu
noncomputable def inV (x:V) (xs:List V):Bool:=xs.any fun y=>eqV y x
def rIn (K:ko) (neg:Bool):R2:=fun x y H Q=>∃p xs,y=.ref p∧(SqL K H p xs∨SqT K H p xs)∧j4 x=true∧xs.all j4=true∧Q (.bl (if neg then !inV x xs else inV x xs)) H
theorem qG:OpR X (compareOp .NotIn) (rIn X.K true):=by
 intro pins s σ H x y v u Q I rx ry h
 obtain ⟨p,xs,rfl,hq,fx,fs,q⟩:=h
 cases ry
 rcases hq with hq | hq
 ·obtain ⟨its,r,pl,hz⟩:=I.list hq
  refine SeqAt.notIn_listAt (eqU x) pl.isList (fun w hw=>jC rx fx r fs w (by simpa using hw)) ⟨.bl _,H,I,rfl,?_⟩
  rw [show its.toArray.any (eqU x)=its.any (eqU x) by simp,ZL r fs]
  exact q
 ·obtain ⟨its,r,pl,hz⟩:=I.tuple hq
  refine SeqAt.notIn_tupleAt (eqU x) pl (fun w hw=>jC rx fx r fs w (by simpa using hw)) ⟨.bl _,H,I,rfl,?_⟩
  rw [show its.toArray.any (eqU x)=its.any (eqU x) by simp,ZL r fs]
  exact q
theorem zj:qK X (.builtin "len") (fun xs H Q=>∃p ys,xs=[.ref p]∧(SqL X.K H p ys∨SqT X.K H p ys)∧Q (.int ys.length) H):=by
 intro pins s σ H xs us Q I r h
 obtain ⟨p,ys,rfl,hq,q⟩:=h
 obtain ⟨u,rfl,rx⟩:=Zt r
 cases rx
 have hn:=Q2
 rcases hq with hq | hq
 ·obtain ⟨its,r',pl,hz⟩:=I.list hq
  have hlen:=r'.length
  exact Calls.call_len_list pl.isList (by simp only [kx] <;> lia) ⟨.int ys.length,H,I.tok _,⟨s.toks+1,by rw [kx,hlen]⟩,q⟩
 ·obtain ⟨its,r',pl,hz⟩:=I.tuple hq
  have hlen:=r'.length
  exact len_tuple pl (by simp only [kx] <;> lia) ⟨.int ys.length,H,I.tok _,⟨s.toks+1,by rw [kx,hlen]⟩,q⟩
theorem zT:qK X (.type "list") (fun xs H Q=>∃p ys,xs=[.ref p]∧(SqL X.K H p ys∨SqT X.K H p ys)∧∀l,H l=none→Q (.ref l) (upd H l (.lst ys))):=by
 intro pins s σ H xs us Q I r h
 obtain ⟨p,ys,rfl,hq,q⟩:=h
 obtain ⟨u,rfl,rx⟩:=Zt r
 cases rx
 have fin:∀(its:List Value),Vals ys its→ys.length≤sizeLine→∀(h':Heap) (c':Nat),(∀b o',s.heap.get? b=some o'→h'.get? b=some o')→
   h'.get? s.heap.objs.size=some { cls:=.type "list",dict:=none,data:=.seq its.toArray c',slots:=#[] }→EP X pins σ Q (.ref s.heap.objs.size) { s with heap:=h' }:=fun its r' hz h' c' kp e=>
  ⟨.ref s.heap.objs.size,_,I.laid (t':=s.toks) kp (kc _) (show zv X.prog X.w _ h' _ (.lst ys) from ⟨hz,its,c',r',e⟩),rfl,q _ (I.hok.fresh (kc _))⟩
 rcases hq with hq | hq
 ·obtain ⟨its,r',pl,hz⟩:=I.list hq
  have hlen:=r'.length
  obtain ⟨o,ho,hc,n,hd⟩:=pl.isList
  exact call_list_seq p (.inl rfl) ho hc hd (fun h' c' kp e=>fin its r' hz h' c' kp e) (by simp only [kx] <;> lia)
 ·obtain ⟨its,r',pl,hz⟩:=I.tuple hq
  have hlen:=r'.length
  obtain ⟨o,ho,hc,n,hd⟩:=pl
  exact call_list_seq p (.inr rfl) ho hc hd (fun h' c' kp e=>fin its r' hz h' c' kp e) (by simp only [kx] <;> lia)
theorem qa:qK X (.type "tuple") (fun xs H Q=>∃p ys,xs=[.ref p]∧((SqL X.K H p ys∧∀l,H l=none→Q (.ref l) (upd H l (.tup ys)))∨(SqT X.K H p ys∧Q (.ref p) H))):=by
 intro pins s σ H xs us Q I r h
 obtain ⟨p,ys,rfl,h⟩:=h
 obtain ⟨u,rfl,rx⟩:=Zt r
 cases rx
 rcases h with ⟨hq,q⟩ | ⟨hq,q⟩
 ·obtain ⟨its,r',pl,hz⟩:=I.list hq
  have hlen:=r'.length
  refine call_tuple_list pl.isList (fun h' kp=>?_) (by simp only [kx] <;> lia)
  have I1:Inv X pins σ H { s with heap:=h' }:=I.kept (t':=s.toks) kp
  have I2:Inv X pins σ (upd H h'.objs.size (.tup ys)) { s with heap:=h'.push { cls:=.type "tuple",data:=.seq its.toArray } }:=
   I1.laid (t':=s.toks) (fun b o e=>Heap.get?_push_of_some _ e) (kc _) (show zv X.prog X.w _ _ _ (.tup ys) from ⟨hz,its,r',IsTup.new _ _⟩)
  exact ⟨.ref h'.objs.size,_,I2,rfl,q _ (I1.hok.fresh (kc _))⟩
 ·obtain ⟨its,r',pl,hz⟩:=I.tuple hq
  exact call_tuple_same pl ⟨.ref p,H,I,rfl,q⟩
def tyV (K:ko) (T:String) (x:V) (H:Hp):Prop:=match x with
 | .str _=>T="str"
 | .int _=>T="int"
 | .ref p=>(T="list"∧∃xs,SqL K H p xs)∨(T="tuple"∧∃o,K.lookup p=some o∧o.cls=.type "tuple"∧o.dict=none)∨
   (T="dict"∧((∃kvs,H p=some (.dK kvs))∨∃kvs,H p=some (.dT kvs)))∨(T="set"∧∃S n,H p=some (.set S n))
 | _=>False
theorem z1y {pins:List (Addr × Obj)} {σ:St} {H:Hp} {s:Shared} {T:String} {x:V} {v:Value} (I:Inv X pins σ H s) (r:RelV x v) (ty:tyV X.K T x H):
  s.TypeIs v T∧∀a,v=.ref a→∃ob,s.heap.get? a=some ob∧ob.dict=none:=by
 cases x with
 | str z=>
  obtain ⟨t,rfl⟩:=r
  cases (show T="str" from ty)
  exact ⟨typeIs_str s z t,fun _ e=>nomatch e⟩
 | int i=>
  obtain ⟨t,rfl⟩:=r
  cases (show T="int" from ty)
  exact ⟨typeIs_int s i t,fun _ e=>nomatch e⟩
 | ref p=>
  cases r
  rcases ty with ⟨rfl,xs,hq⟩ | ⟨rfl,o,hk,hc,hd⟩ | ⟨rfl,hk⟩ | ⟨rfl,S,n,hk⟩
  ·obtain ⟨its,_,pl,_⟩:=I.list hq
   refine ⟨pl.isList.typeIs,fun a e=>?_⟩
   cases e
   obtain ⟨o,n,e,c,hd,_⟩:=pl
   exact ⟨o,e,hd⟩
  ·refine ⟨⟨o,I.kIn p o hk,hc⟩,fun a e=>?_⟩
   cases e
   exact ⟨o,I.kIn _ o hk,hd⟩
  ·have z:∃o,s.heap.get? p=some o∧o.ExactDict:=by
    rcases hk with ⟨kvs,hk⟩ | ⟨kvs,hk⟩
    ·obtain ⟨_,_,_,_,o,_,_,e,ex,_⟩:=I.hok p _ hk
     exact ⟨o,e,ex⟩
    ·obtain ⟨_,_,_,_,o,_,_,e,ex,_⟩:=I.hok p _ hk
     exact ⟨o,e,ex⟩
   obtain ⟨o,e,ex⟩:=z
   refine ⟨⟨o,e,ex.1⟩,fun a e2=>?_⟩
   cases e2
   exact ⟨o,e,ex.2.1⟩
  ·obtain ⟨o,_,_,_,e,ex,_⟩:=I.hok p _ hk
   refine ⟨⟨o,e,ex.1⟩,fun a e2=>?_⟩
   cases e2
   exact ⟨o,e,ex.2.1⟩
 | _=>exact False.elim ty
def tBM (K:ko) (T:String) (r:V→List V→Hp→VK→Prop) (to:TE) (t:TA):TE:=fun σ H Q=>to σ H fun x H1=>tyV K T x H1∧t σ H1 fun xs H2=>r x xs H2 Q
variable {o e:Expr} {es:List Expr} {to:TE} {t:TA} {name:Str} {apos cpos:Pos} {T id:String} {r:V→List V→Hp→VK→Prop}
theorem Z0 (pa:PlainAttrs T) (slot:Slot T name id) (hty:typeOf (.builtin id)=pure (.type "method_descriptor")) (hm:MtR X id r) (ho:PE X o to) (ha:PA X (e :: es) t)
  (hbase:autoParam (attributeBase o name X.env (eval o X.env)=eval o X.env) aR._auto_1)
  (hfew:autoParam (((backTo cpos (starEach (e :: es) X.env)).all (fun x=> !x.1)&&(backToKw cpos (keywordEach [] X.env)).all (fun x=>x.1.isSome)
   &&decide ((e :: es).length+([]:List Keyword).length+(if ([]:List Keyword).isEmpty then 0 else 1) < 30))=true) aR._auto_1)
  (hline:autoParam ((apos.endLine == cpos.line)=true) aR._auto_1) (hs:autoParam (starEach (e :: es) X.env=(false,eval e X.env) :: starEach es X.env) aR._auto_1) (hplain:autoParam ((backTo cpos (starEach es X.env)).any (·.1)=false) aR._auto_1):
  PE X (.Call (.Attribute o name apos) (e :: es) [] cpos) (tBM X.K T r to t):=by
 intro pins s σ H Q I h
 refine wpAny_Call_method_late hbase hfew hline rfl (thn (ho pins s σ H _ I h) fun v s1 zz=>?_)
 obtain ⟨x,H1,I1,r1,ty,q1⟩:=zz
 obtain ⟨h1,h2⟩:=z1y I1 r1 ty
 refine ⟨T,id,pa,slot,hty,h1,h2,?_⟩
 have hA:=ha cpos pins s1 σ H1 _ I1 q1
 rw [hs] at hA ⊢
 refine Calls.callWith_builtin (by show (false||(backTo cpos (starEach es X.env)).any (·.1))=false;rw [hplain] <;> rfl) (Calls.evalArgs_plain ?_)
 exact thn hA fun us s2 ⟨vs,H2,I2,r2,q2⟩=>hm pins s2 σ H2 x vs v us Q I2 r1 r2 q2
end
end L2
namespace L2
open PySem PySem.Spec PyProof.Rows
def MtM (X:Cx) (id:String) (r:V→List V→Hp→VK→Prop):Prop:=
 ∀(pins:List (Addr × Obj)) (s:Shared) (σ:St) (H:Hp) (x:V) (xs:List V) (v:Value) (us:List Value) (Q:VK),Inv X pins σ H s→RelV x v→Vals xs us→r x xs H Q→
  wpAny (model X.prog X.w) X.A (call (.builtin id) (v :: us)) (EP X pins σ Q) X.xe s
theorem Vals.one:∀{x:V} {us:List Value},Vals [x] us→∃u,us=[u]∧RelV x u
 | _,_,.cons r .nil=>⟨_,rfl,r⟩
theorem Vals.rep {xs:List V} {us:List Value} (h:Vals xs us):∀k:Nat,Vals (List.replicate k xs).flatten (List.replicate k us).flatten
 | 0=>.nil
 | k+1=>by
  rw [List.replicate_succ,List.replicate_succ,List.flatten_cons,List.flatten_cons]
  exact Vals.append h (Vals.rep h k)
theorem Zb (its:List Value):∀(k:Nat) (acc:List Value),
  List.foldl (fun x1 x2=>x1++x2) acc.toArray (List.replicate k its.toArray)=(acc++(List.replicate k its).flatten).toArray
 | 0,acc=>by simp
 | k+1,acc=>by
  have e:acc.toArray++its.toArray=(acc++its).toArray:=by simp
  have e2:(acc++its)++(List.replicate k its).flatten=acc++(List.replicate (k+1) its).flatten:=by
   rw [List.replicate_succ,List.flatten_cons,List.append_assoc]
  rw [←e2,←Zb its k (acc++its),←e,List.replicate_succ,List.foldl_cons]
section
variable {X:Cx} {pins:List (Addr × Obj)} {σ:St} {H:Hp} {s:Shared} {l b:Addr} {xs ys zs:List V}
theorem Inv.lset {its its':List Value} {n:Nat} {f:Array Value→Array Value} {t':Nat} (I:Inv X pins σ H s) (hH:H l=some (.lst xs))
  (e:s.heap.get? l=some { cls:=.type "list",data:=.seq its.toArray n }) (hf:f its.toArray=its'.toArray) (hv:Vals ys its') (hz:ys.length≤sizeLine):
  Inv X pins σ (upd H l (.lst ys)) { s with heap:=s.heap.update l (Obj.mapSeq f),toks:=t' }:=by
 have q:=PySem.IsL.update e f
 rw [hf] at q
 refine I.write (x:=l) (e:=l) (by rw [hH];exact trivial) (.inl rfl) (fun b' u hb hu=>(Heap.get?_update_other s.heap (Obj.mapSeq f) (Ne.symm hb)).trans hu) ⟨_,q⟩ ?_
 exact ⟨hz,its',_,hv,q⟩
theorem Inv.lnew {its:List Value} {t':Nat} (I:Inv X pins σ H s) (hv:Vals ys its) (hz:ys.length≤sizeLine):
  Inv X pins σ (upd H s.heap.objs.size (.lst ys)) { s with heap:=s.heap.push { cls:=.type "list",data:=.seq its.toArray },toks:=t' }:=
 I.laid (fun _ _ q=>Heap.get?_push_of_some _ q) (kc _) ⟨hz,its,0,hv,Heap.get?_push_size _ rfl⟩
theorem Inv.fresh (I:Inv X pins σ H s):H s.heap.objs.size=none:=I.hok.fresh (kc _)
theorem Inv.lstM (I:Inv X pins σ H s) (hH:H l=some (.lst xs)):xs.length≤sizeLine∧∃(its:List Value) (n:Nat),Vals xs its∧xs.length=its.length∧s.heap.get? l=some { cls:=.type "list",data:=.seq its.toArray n }:=by
 obtain ⟨z,its,n,r,e⟩:=I.hok l _ hH
 exact ⟨z,its,n,r,r.length,e⟩
theorem JV {n:Nat} (h:n≤sizeLine):Builtin.List.listTooLong n=false:=by
 unfold Builtin.List.listTooLong
 exact ke (by lia)
end
section
variable {X:Cx}
def QM:V→List V→Hp→VK→Prop:=fun x vs H Q=>∃l xs y,x=.ref l∧vs=[y]∧H l=some (.lst xs)∧xs.length < sizeLine∧Q .non (upd H l (.lst (xs++[y])))
theorem qU:MtM X "list.append" QM:=by
 intro pins s σ H x vs v us Q I rx rv h
 obtain ⟨l,xs,y,rfl,rfl,hH,hz,q⟩:=h
 cases rx
 obtain ⟨u,rfl,ru⟩:=rv.one
 obtain ⟨z,its,n,r,hl,e⟩:=I.lstM hH
 refine call_meets F.slot_list_append ⟨_,e,rfl⟩ F.entry_list_append (F.args_list_append_2 _ _) (PySem.list_append l its.toArray n u (by rw [kx];lia)) ⟨e,?_⟩
 refine ⟨.non,_,I.lset (its':=its++[u]) hH e (by simp) (r.append (.cons ru .nil)) ?_,rfl,q⟩
 rw [kh,ky]
 lia
def rCat:R2:=fun x y H Q=>∃l b xs zs,x=.ref l∧y=.ref b∧H l=some (.lst xs)∧H b=some (.lst zs)∧xs.length+zs.length≤sizeLine∧∀p,H p=none→Q (.ref p) (upd H p (.lst (xs++zs)))
theorem Z3:OpR X (binaryOp .Add) rCat:=by
 intro pins s σ H x y v u Q I rx ry h
 obtain ⟨l,b,xs,zs,rfl,rfl,hH,hB,hz,q⟩:=h
 cases rx
 cases ry
 obtain ⟨z,its,n,r,hl,e⟩:=I.lstM hH
 obtain ⟨z2,its2,n2,r2,hl2,e2⟩:=I.lstM hB
 refine PySem.P.add_list e e2 ?_ (by rw [kx,kx];lia)
 have ea:its.toArray++its2.toArray=(its++its2).toArray:=by simp
 rw [ea]
 exact ⟨.ref _,_,I.lnew (t':=s.toks) (r.append r2) (by rw [kh];lia),rfl,q _ I.fresh⟩
def rRep:R2:=fun x y H Q=>∃l k xs,x=.ref l∧y=.int k∧H l=some (.lst xs)∧-(2 ^ 63)≤k∧k < 2 ^ 63∧xs.length * k.toNat≤sizeLine∧
 ∀p,H p=none→Q (.ref p) (upd H p (.lst (List.replicate k.toNat xs).flatten))
theorem z17 {α:Type} (xs:List α) (k:Nat):(List.replicate k xs).flatten.length=k * xs.length:=by
 induction k with
 | zero=>simp
 | succ k ih=>rw [List.replicate_succ,List.flatten_cons,kh,ih,Nat.succ_mul,Nat.add_comm]
theorem z1V:OpR X (binaryOp .Mult) rRep:=by
 intro pins s σ H x y v u Q I rx ry h
 obtain ⟨l,k,xs,rfl,rfl,hH,h1,h2,hz,q⟩:=h
 cases rx
 obtain ⟨t,rfl⟩:=ry
 obtain ⟨z,its,n,r,hl,e⟩:=I.lstM hH
 have hlen:its.toArray.size * k.toNat≤sizeLine:=by rw [kx,←hl];exact hz
 have hcap:¬its.toArray.size * k.toNat > (2 ^ 63 - 1) / 8:=by
  have:(sizeLine:Nat)≤(2 ^ 63 - 1) / 8:=by decide
  lia
 have hfit:¬(!Builtin.List.listFitsIndex k)=true:=by
  rw [fitsIndex_both h1 h2]
  exact ka
 have hlong:¬Builtin.List.listTooLong (its.toArray.size * k.toNat)=true:=by
  rw [JV hlen]
  exact ka
 have hnew:List.foldl (fun x1 x2=>x1++x2) #[] (List.replicate (if its.toArray.isEmpty=true then 0 else k.toNat) its.toArray)=(List.replicate k.toNat its).flatten.toArray:=by
  have f0:∀m:Nat,List.foldl (fun x1 x2=>x1++x2) #[] (List.replicate m its.toArray)=(List.replicate m its).flatten.toArray:=fun m=>by
   have:=Zb its m []
   rw [List.nil_append] at this
   exact this
  rw [f0]
  cases its with
  | nil=>simp
  | cons a r'=>rw [kq (by simp)]
 refine wpAny_binaryOp_repeat_ref (T:="list") (U:="int") (by decide) ⟨_,e,rfl⟩ (fun s'=>typeIs_int s' k t) noFill_list_mul F.fills_int_mul F.slot_int_rmul repeat_list F.slot_int_index.lookup
  (call_meets F.slot_int_rmul (typeIs_int s k t) F.entry_int_rmul (F.args_int_rmul_2 _ _) (int___rmul___int_list k t l its.toArray n)
   ⟨e,rfl,⟨_,e,rfl⟩,call_meets F.slot_list_mul ⟨_,e,rfl⟩ F.entry_list_mul (F.args_list_mul_2 _ _) (AutoListH.list___mul___list_int_3 l its.toArray n k t hfit hcap hlong) ⟨e,?_⟩⟩)
 rw [hnew]
 exact ⟨.ref _,_,I.lnew (t':=s.toks) (r.rep k.toNat) (by rw [z17,Nat.mul_comm];exact hz),rfl,q _ I.fresh⟩
end
section
variable {prog:Program} {w:World} {A:Around} {E:Value→Shared→Prop} {s:Shared}
set_option maxRecDepth 100000 in
end
section
variable {X:Cx}
end
end L2
namespace L2
open PySem PySem.Spec PyProof.Rows
section
variable {κ:Type} [DecidableEq κ]
noncomputable def valV (kvs:List (κ × V)) (k:κ):Option V:=(kvs.find? fun kv=>decide (kv.1=k)).map (·.2)
noncomputable def putK (kvs:List (κ × V)) (k:κ) (v:V):List (κ × V):=
 if (kvs.any fun kv=>decide (kv.1=k))=true then kvs.map (fun kv=>if kv.1=k then (kv.1,v) else kv) else kvs++[(k,v)]
theorem ju {p:κ × V} {r:List (κ × V)} {k:κ} (e:p.1=k):valV (p :: r) k=some p.2:=by simp [valV,List.find?_cons,e]
theorem jv {p:κ × V} {r:List (κ × V)} {k:κ} (e:¬p.1=k):valV (p :: r) k=valV r k:=by simp [valV,List.find?_cons,e]
theorem jw (k:κ):∀kvs:List (κ × V),(kvs.any fun kv=>decide (kv.1=k))=(valV kvs k).isSome
 | []=>rfl
 | p :: r=>by
  rw [List.any_cons]
  by_cases e:p.1=k
  ·simp only [ju e,kf e,Bool.true_or,Option.isSome_some]
  ·rw [jv e,ke e,Bool.false_or];exact jw k r
theorem qW (kvs:List (κ × V)) (k:κ) (v:V):(putK kvs k v).length≤kvs.length+1:=by
 unfold putK
 split
 ·rw [kg];lia
 ·rw [kh,kH,List.length_nil];lia
theorem RelO.isSome_eq {o:Option V} {u:Option Value} (r:RelO o u):o.isSome=u.isSome:=by
 cases o with
 | none=>cases u with
  | none=>rfl
  | some _=>exact (show False from r).elim
 | some _=>cases u with
  | none=>exact (show False from r).elim
  | some _=>rfl
theorem KV.val {kvs:List (κ × V)} {vs:List (κ × Value)} (r:KV kvs vs) (k:κ):RelO (valV kvs k) (valueAt vs k):=by
 unfold KV at r
 induction r with
 | nil=>exact True.intro
 | @cons p q ps qs h t ih=>
  obtain ⟨h1,h2⟩:=h
  by_cases e:p.1=k
  ·have e':q.1=k:=h1.symm.trans e
   have b:valueAt (q :: qs) k=some q.2:=by simp [valueAt,List.find?_cons,e']
   rw [ju e,b];exact h2
  ·have e':¬q.1=k:=fun z=>e (h1.trans z)
   have b:valueAt (q :: qs) k=valueAt qs k:=by simp [valueAt,List.find?_cons,e']
   rw [jv e,b];exact ih
theorem KV.any {kvs:List (κ × V)} {vs:List (κ × Value)} (r:KV kvs vs) (k:κ):(kvs.any fun kv=>decide (kv.1=k))=vs.any fun kv=>decide (kv.1=k):=by
 unfold KV at r
 induction r with
 | nil=>rfl
 | cons h t ih=>rw [List.any_cons,List.any_cons,ih,h.1]
theorem KV.repl {kvs:List (κ × V)} {vs:List (κ × Value)} (r:KV kvs vs) (k:κ) {y:V} {u:Value} (ry:RelV y u):
  KV (kvs.map fun kv=>if kv.1=k then (kv.1,y) else kv) (vs.map fun kv=>if kv.1=k then (kv.1,u) else kv):=by
 unfold KV at r ⊢
 induction r with
 | nil=>exact .nil
 | @cons p q ps qs h t ih=>
  rw [kL,kL]
  refine .cons ?_ ih
  obtain ⟨h1,h2⟩:=h
  by_cases e:p.1=k
  ·rw [kr e,kr (h1.symm.trans e)];exact ⟨h1,ry⟩
  ·rw [kq e,kq (fun z=>e (h1.trans z))];exact ⟨h1,h2⟩
theorem KV.put {kvs:List (κ × V)} {vs:List (κ × Value)} (r:KV kvs vs) (k:κ) {y:V} {u:Value} (ry:RelV y u):KV (putK kvs k y) (stored vs k u):=by
 unfold putK stored
 rw [r.any k]
 by_cases e:(vs.any fun kv=>decide (kv.1=k))=true
 ·rw [kr e,kr e];exact r.repl k ry
 ·rw [kq e,kq e];exact Paired.snoc r ⟨rfl,ry⟩
theorem KV.length {kvs:List (κ × V)} {vs:List (κ × Value)} (r:KV kvs vs):kvs.length=vs.length:=Paired.length r
end
theorem z18 {P:Program} {w:World} {k:Key} {u:Value} (r:RelV (kV k) u):(zw P w).is k u=true:=by
 cases k with
 | inl i=>obtain ⟨t,e⟩:=(show ∃t,u=Value.int i t from r);subst e;exact ZA P w i t
 | inr x=>obtain ⟨t,e⟩:=(show ∃t,u=Value.str x t from r);subst e;exact Zz P w x t
theorem Z9 {P:Program} {w:World}:∀{ks:List Key} {us:List Value},Vals (ks.map kV) us→ItemsAre (zw P w) ks us
 | [],_,r=>by rw [List.map_nil] at r;cases r;exact .nil
 | k :: ks,_,r=>by
  rw [kL] at r
  cases r with
  | cons h t=>exact .cons (z18 h) (Z9 t)
abbrev KT (H:Hp):List (List Key × V)→List (List Key × Addr × Value)→Prop:=Paired fun p q=>p.1=q.1∧H q.2.1=some (.tup (p.1.map kV))∧RelV p.2 q.2.2
theorem KT.val {H:Hp} {kvs:List (List Key × V)} {xs:List (List Key × Addr × Value)} (r:KT H kvs xs) (k:List Key):RelO (valV kvs k) ((atKey xs k).map (·.2)):=by
 induction r with
 | nil=>exact True.intro
 | @cons p q ps qs h t ih=>
  obtain ⟨h1,_,h2⟩:=h
  by_cases e:p.1=k
  ·have e':q.1=k:=h1.symm.trans e
   have b:atKey (q :: qs) k=some q.2:=by simp [atKey,List.find?_cons,e']
   rw [ju e,b];exact h2
  ·have e':¬q.1=k:=fun z=>e (h1.trans z)
   have b:atKey (q :: qs) k=atKey qs k:=by simp [atKey,List.find?_cons,e']
   rw [jv e,b];exact ih
theorem KT.repl {H:Hp} {kvs:List (List Key × V)} {xs:List (List Key × Addr × Value)} (r:KT H kvs xs) (k:List Key) {y:V} {u:Value} (ry:RelV y u):
  KT H (kvs.map fun kv=>if kv.1=k then (kv.1,y) else kv) (xs.map (putAt k u)):=by
 induction r with
 | nil=>exact .nil
 | @cons p q ps qs h t ih=>
  rw [kL,kL]
  refine .cons ?_ ih
  obtain ⟨h1,h2,h3⟩:=h
  unfold putAt
  by_cases e:p.1=k
  ·rw [kr e,kr (h1.symm.trans e)];exact ⟨h1,h2,ry⟩
  ·rw [kq e,kq (fun z=>e (h1.trans z))];exact ⟨h1,h2,h3⟩
theorem KT.put {H:Hp} {kvs:List (List Key × V)} {xs:List (List Key × Addr × Value)} (r:KT H kvs xs) (k:List Key) {b:Addr} {y:V} {u:Value} (hb:H b=some (.tup (k.map kV))) (ry:RelV y u):
  KT H (putK kvs k y) (storedH xs k b u):=by
 have e:(kvs.any fun kv=>decide (kv.1=k))=(atKey xs k).isSome:=by
  rw [jw,(r.val k).isSome_eq,Option.isSome_map]
 unfold putK storedH
 rw [e]
 by_cases q:(atKey xs k).isSome=true
 ·rw [kr q,kr q];exact r.repl k ry
 ·rw [kq q,kq q];exact Paired.snoc r ⟨rfl,hb,ry⟩
theorem KT.keeps {H H':Hp} {kvs:List (List Key × V)} {xs:List (List Key × Addr × Value)} (r:KT H kvs xs) (ht:∀b ys,H b=some (.tup ys)→H' b=some (.tup ys)):KT H' kvs xs:=
 Paired.mapP r fun _ _ z=>⟨z.1,ht _ _ z.2.1,z.2.2⟩
section
variable {P:Program} {w:World} {H:Hp} {h:Heap} {a:Addr}
theorem z1Q {u:HO} (ok:HOk P w H h) (e:Rd H a u):zv P w H h a u:=e.ok ok
theorem z2m {kvs:List (Key × V)} (ok:HOk P w H h) (e:Rd H a (.dK kvs)):kvs.length≤sizeLine∧(a == sysModules)=false∧∃vs,KV kvs vs∧h.DictOf (zw P w) a vs:=
 show zv P w H h a (.dK kvs) from z1Q ok e
theorem z2R {kvs:List (Key × V)} (ok:HOk P w H h) (e:H a=some (.dK kvs)):kvs.length≤sizeLine∧(a == sysModules)=false∧∃vs,KV kvs vs∧h.DictOf (zw P w) a vs:=z2m ok (.inl e)
theorem Q4 {ks:List Key} (ok:HOk P w H h) (e:H a=some (.tup (ks.map kV))):(tupleKind (zw P w)).is h ks a:=by
 obtain ⟨_,its,r,o,h1,h2,n,h3⟩:=(show zv P w H h a (.tup (ks.map kV)) from ok a _ e)
 exact ⟨o,its.toArray,n,h1,h2,h3,by simpa using Z9 r⟩
theorem z2k {kvs:List (List Key × V)} (ok:HOk P w H h) (e:Rd H a (.dT kvs)):kvs.length≤sizeLine∧(a == sysModules)=false∧
  ∃xs,KT H kvs xs∧h.DictOfH (tupleKind (zw P w)) a xs:=by
 obtain ⟨z,y,xs,r,o,es,ep,h1,h2,h3,h4,h5⟩:=(show zv P w H h a (.dT kvs) from z1Q ok e)
 refine ⟨z,y,xs,r,o,es,ep,h1,h2,h3,h4,fun x hx=>?_,h5⟩
 have all:∀{l:List (List Key × V)} {m:List (List Key × Addr × Value)},KT H l m→∀x∈m,(tupleKind (zw P w)).is h x.1 x.2.1:=by
  intro l m q
  induction q with
  | nil=>intro x hx;exact nomatch hx
  | @cons p q ps qs hq t ih=>
   intro x hx
   rcases kw.mp hx with e | hx
   ·subst e
    exact Q4 ok (by rw [←hq.1];exact hq.2.1)
   ·exact ih x hx
 exact all r x hx
theorem z2l {kvs:List (List Key × V)} (ok:HOk P w H h) (e:H a=some (.dT kvs)):kvs.length≤sizeLine∧(a == sysModules)=false∧
  ∃xs,KT H kvs xs∧h.DictOfH (tupleKind (zw P w)) a xs:=z2k ok (.inl e)
end
def DGet (H:Hp) (a:Addr) (y:V) (r:Option V):Prop:=
 (∃kvs k,Rd H a (.dK kvs)∧y=kV k∧r=valV kvs k)∨∃kvs k b,Rd H a (.dT kvs)∧y=.ref b∧H b=some (.tup (k.map kV))∧r=valV kvs k
def DPut (H:Hp) (a:Addr) (y v:V) (H':Hp):Prop:=
 (∃kvs k,H a=some (.dK kvs)∧y=kV k∧kvs.length < sizeLine∧H'=upd H a (.dK (putK kvs k v)))∨
 ∃kvs k b,H a=some (.dT kvs)∧y=.ref b∧H b=some (.tup (k.map kV))∧kvs.length < sizeLine∧H'=upd H a (.dT (putK kvs k v))
theorem DGet.t {H:Hp} {a b:Addr} {kvs:List (List Key × V)} {k:List Key} (e:H a=some (.dT kvs)) (eb:H b=some (.tup (k.map kV))):DGet H a (.ref b) (valV kvs k):=.inr ⟨kvs,k,b,.inl e,rfl,eb,rfl⟩
theorem DPut.t {H:Hp} {a b:Addr} {kvs:List (List Key × V)} {k:List Key} {v:V} (e:H a=some (.dT kvs)) (eb:H b=some (.tup (k.map kV))) (hl:kvs.length < sizeLine):
  DPut H a (.ref b) v (upd H a (.dT (putK kvs k v))):=.inr ⟨kvs,k,b,e,rfl,eb,hl,rfl⟩
section
variable {X:Cx} {pins:List (Addr × Obj)} {σ:St} {H:Hp} {s:Shared} {a:Addr} {y v:V} {u r:Value} {o:Option V} {A:Around} {E:Value→Shared→Prop}
theorem Inv.big (I:Inv X pins σ H s):sysModules < s.heap.objs.size:=by
 have h:mainGlobals < s.heap.objs.size:=(I.mod.glob.keeps I.bk).lt
 exact Nat.lt_trans (by decide) h
theorem z1n {Q:Value→Shared→Prop} (hu:A.units+1 < cLine) (I:Inv X pins σ H s) (g:DGet H a y o) (ry:RelV y u) (h:∀s',Inv X pins σ H s'→Q (.bool (!o.isSome)) s'):
  wpAny (model X.prog X.w) A (compareOp .NotIn u (.ref a)) Q E s:=by
 rcases g with ⟨kvs,k,e,ey,l⟩ | ⟨kvs,k,b,e,ey,eb,l⟩
 ·subst ey
  obtain ⟨z,hd,vs,rel,dd⟩:=z2m I.hok e
  refine wpAny_notIn_of (z18 ry) hd dd.mapOf ?_
  rw [←(rel.val k).isSome_eq,←l]
  exact h _ (I.tok _)
 ·subst ey
  cases (show u=Value.ref b from ry)
  obtain ⟨z,hd,xs,rel,dd⟩:=z2k I.hok e
  refine wpAny_notIn_heap (tupleKind_room_in1 hu) (Q4 I.hok eb) hd dd ?_
  have q:=(rel.val k).isSome_eq
  rw [Option.isSome_map] at q
  rw [←q,←l]
  exact h _ (I.tok _)
theorem ZE {h':Heap} {t':Nat} {ob:HO} (I:Inv X pins σ H s) (mu:Mut (H a)) (hs:Heap.SameBut a s.heap h') (he:∃q,h'.get? a=some q) (new:zv X.prog X.w (upd H a ob) h' a ob):
  Inv X pins σ (upd H a ob) { s with heap:=h',toks:=t' }:=
 I.write (x:=a) (e:=a) mu (.inl rfl) (fun b q hb z=>(hs.2 b hb).trans z) he new
theorem z2n {P:Program} {w:World} {H':Hp} {h':Heap} {kvs:List (Key × V)} {vs:List (Key × Value)} (z:kvs.length≤sizeLine) (hd:(a == sysModules)=false) (rel:KV kvs vs) (dd:h'.DictOf (zw P w) a vs):
  zv P w H' h' a (.dK kvs):=⟨z,hd,vs,rel,dd⟩
theorem Jo {H':Hp} {Q:Unit→Shared→Prop} (hu:A.units+1 < cLine) (I:Inv X pins σ H s) (g:DPut H a y v H') (ry:RelV y u) (rv:RelV v r) (h:∀s',Inv X pins σ H' s'→Q () s'):
  wpAny (model X.prog X.w) A (setItem (.ref a) u r) Q E s:=by
 rcases g with ⟨kvs,k,e,ey,l,eH⟩ | ⟨kvs,k,b,e,ey,eb,l,eH⟩
 ·subst ey eH
  obtain ⟨z,hd,vs,rel,dd⟩:=z2R I.hok e
  have hz:vs.length≤sizeLine:=by rw [←rel.length];exact z
  have hl:(putK kvs k v).length≤sizeLine:=by have:=qW kvs k v;lia
  refine wpAny_setItem_pairs (hsz:=hz) (z18 ry) dd fun h' dd' hs=>h _ ?_
  have he:∃q,h'.get? a=some q:=let ⟨q,_,_,hq,_⟩:=dd';⟨q,hq⟩
  exact ZE I (by rw [e];exact True.intro) hs he (z2n hl hd (rel.put k rv) dd')
 ·subst ey eH
  cases (show u=Value.ref b from ry)
  obtain ⟨z,hd,xs,rel,dd⟩:=z2l I.hok e
  have hz:xs.length≤sizeLine:=by rw [←Paired.length rel];exact z
  have hl:(putK kvs k v).length≤sizeLine:=by have:=qW kvs k v;lia
  refine wpAny_setItem_heap (hsz:=hz) (tupleKind_room_in1 hu) (Q4 I.hok eb) dd fun h' dd' hs=>h _ ?_
  obtain ⟨q,es,ep,hq,h2,h3,h4,_,h5⟩:=dd'
  refine ZE I (by rw [e];exact True.intro) hs ⟨q,hq⟩ ⟨hl,hd,_,(rel.put k eb rv).keeps fun c ys ec=>?_,q,es,ep,hq,h2,h3,h4,h5⟩
  rw [zf (Z7 ec e (fun z=>nomatch z))]
  exact ec
end
section
variable {X:Cx} {pins:List (Addr × Obj)} {σ:St} {H:Hp} {s:Shared} {a:Addr} {kvs:List (Key × V)} {k:Key} {u:Value} {A:Around} {E:Value→Shared→Prop}
end
def z0O (ty td:TE):TE:=fun σ H Q=>ty σ H fun y H1=>td σ H1 fun x H2=>∃a o,x=.ref a∧DGet H2 a y o∧Q (.bl (!o.isSome)) H2
def z2z (td ty tv:TE):TS:=fun D σ H=>tv σ H fun v H1=>td σ H1 fun x H2=>ty σ H2 fun y H3=>∃a H4,x=.ref a∧DPut H3 a y v H4∧D.nx σ H4
section
variable {X:Cx} {o i e value:Expr} {pos pos' tpos:Pos} {td ty tv:TE}
theorem Z1 (hu:X.A.units+1 < cLine) (hi:PE X i ty) (ho:PE X o td):PC X .NotIn i o (z0O ty td):=by
 intro pins s σ H Q I h
 refine thn (hi pins s σ H _ I h) fun iv s1 ⟨y,H1,I1,ry,q1⟩=>thn (ho pins s1 σ H1 _ I1 q1) fun u s2 zz=>?_
 obtain ⟨x,H2,I2,rx,a,ov,ex,g,q2⟩:=zz
 subst ex
 obtain rfl:u=Value.ref a:=rx
 exact z1n hu I2 g ry fun s3 I3=>⟨.bl (!ov.isSome),H2,I3,rfl,q2⟩
theorem QQ (hu:X.A.units+1 < cLine) (ho:PE X o td) (hi:PE X i ty) (hv:PE X value tv) (hs:swapsWith value (some (.Subscript o i pos')) pos.line X.env=pure false):
  PS X (.Assign [.Subscript o i pos'] value pos) (z2z td ty tv):=by
 intro pins s σ H D I h
 refine wpAny_Assign_Subscript (thn (hv pins s σ H _ I h) fun r s1 ⟨v,H1,I1,rv,q1⟩=>thn (ho pins s1 σ H1 _ I1 q1) fun u s2 ⟨x,H2,I2,rx,q2⟩=>thn (hi pins s2 σ H2 _ I2 q2) fun iv s3 ⟨y,H3,I3,ry,a,H4,ex,g,q3⟩=>?_) hs
 subst ex
 obtain rfl:u=Value.ref a:=rx
 exact Jo hu I3 g ry rv fun s4 I4=>⟨σ,H4,I4,q3⟩
end
theorem z09 {P:Program} {w:World} {H:Hp} (h:Heap) (hb:sysModules < h.objs.size):zv P w H (h.push { cls:=.type "dict",data:=.dict #[] }) h.objs.size (.dK []):=
 ⟨Nat.zero_le _,beq_eq_false_iff_ne.mpr (Ne.symm (Nat.ne_of_lt hb)),[],.nil,Heap.DictOf.new h⟩
theorem Q7 {P:Program} {w:World} {H:Hp} (h:Heap) (hb:sysModules < h.objs.size):zv P w H (h.push { cls:=.type "dict",data:=.dict #[] }) h.objs.size (.dT []):=
 ⟨Nat.zero_le _,beq_eq_false_iff_ne.mpr (Ne.symm (Nat.ne_of_lt hb)),[],.nil,_,#[],0,Heap.get?_push_size _ rfl,⟨rfl,rfl,rfl⟩,rfl,rfl,List.nodup_nil⟩
def z1F:TE:=fun _ H Q=>∀p,H p=none→Q (.ref p) (upd H p (.dK []))
def z1E:TE:=fun _ H Q=>∀p,H p=none→Q (.ref p) (upd H p (.dT []))
section
variable {X:Cx} {pos:Pos}
theorem JT:PE X (.Dict [] [] pos) z1F:=fun pins s σ H Q I h=>
 wpAny_Dict_empty ⟨.ref s.heap.objs.size,_,I.laid (a:=s.heap.objs.size) (o:=.dK []) (t':=s.toks) (fun _ _ q=>Heap.get?_push_of_some _ q) (kc _) (z09 s.heap I.big),rfl,h _ (I.hok.fresh (kc _))⟩
theorem JS:PE X (.Dict [] [] pos) z1E:=fun pins s σ H Q I h=>
 wpAny_Dict_empty ⟨.ref s.heap.objs.size,_,I.laid (a:=s.heap.objs.size) (o:=.dT []) (t':=s.toks) (fun _ _ q=>Heap.get?_push_of_some _ q) (kc _) (Q7 s.heap I.big),rfl,h _ (I.hok.fresh (kc _))⟩
end
def Qz:List (TE × TE)→St→Hp→(List (V × V)→Hp→Prop)→Prop
 | [],_,H,Q=>Q [] H
 | (tk,tv) :: r,σ,H,Q=>tk σ H fun x H1=>tv σ H1 fun y H2=>Qz r σ H2 fun ps H3=>Q ((x,y) :: ps) H3
abbrev VV:List (V × V)→List (Value × Value)→Prop:=Paired fun p q=>RelV p.1 q.1∧RelV p.2 q.2
def PPs (X:Cx) (pos:Pos) (keys:List (Option Expr)) (values:List Expr) (trs:List (TE × TE)):Prop:=
 ∀(pins:List (Addr × Obj)) (s:Shared) (σ:St) (H:Hp) (Q:List (V × V)→Hp→Prop),Inv X pins σ H s→Qz trs σ H Q→
  wpAny (model X.prog X.w) X.A (evalPairs (pairTrees keys values X.env pos)) (fun vs s'=>∃ps H',Inv X pins σ H' s'∧VV ps vs∧Q ps H') X.xe s
theorem z0V {X:Cx} {pos:Pos}:PPs X pos [] [] []:=fun pins s σ H Q I h=>pairTrees_nil_walk ⟨[],H,I,.nil,h⟩
theorem JP {X:Cx} {pos:Pos} {k v:Expr} {ks:List (Option Expr)} {vs:List Expr} {tk tv:TE} {trs:List (TE × TE)} (hk:PE X k tk) (hv:PE X v tv) (hr:PPs X pos ks vs trs):
  PPs X pos (some k :: ks) (v :: vs) ((tk,tv) :: trs):=fun pins s σ H Q I h=>
 pairTrees_cons_walk (thn (hk pins s σ H _ I h) fun u s1 ⟨x,H1,I1,rx,q1⟩=>thn (hv pins s1 σ H1 _ I1 q1) fun w2 s2 ⟨y,H2,I2,ry,q2⟩=>
  thn (hr pins s2 σ H2 _ I2 q2) fun ws s3 ⟨ps,H3,I3,rel,q3⟩=>⟨(x,y) :: ps,H3,I3,.cons ⟨rx,ry⟩ rel,q3⟩)
section
variable {X:Cx} {pins:List (Addr × Obj)} {σ:St} {H:Hp} {s:Shared} {a:Addr} {y d:V} {u r:Value} {o:Option V} {A:Around} {E:Value→Shared→Prop}
end
section
variable {X:Cx} {o e f:Expr} {apos cpos:Pos} {td ty tx:TE}
end
section
variable {X:Cx} {pins:List (Addr × Obj)} {σ:St} {H:Hp} {s:Shared} {a:Addr} {kvs:List (Key × V)} {A:Around} {E:Value→Shared→Prop}
end
section
variable {X:Cx} {pins:List (Addr × Obj)} {σ:St} {H:Hp} {s:Shared} {a:Addr} {y:V} {u:Value} {A:Around} {E:Value→Shared→Prop}
end
end L2
namespace Att
open PySem PySem.W PySem.Calls PyProof.Rows
theorem qY {P:Params} {h:Heap}:∀(ns:List Int) (vs:List Value),WellAll P h vs (ns.map WData.int)→IntsAre vs ns:=by
 intro ns
 induction ns with
 | nil=>
  intro vs w
  rw [List.map_nil] at w
  cases w
  exact .nil
 | cons n ns ih=>
  intro vs w
  rw [kL] at w
  cases w with
  | cons a b=>
   cases a
   exact .cons _ _ (ih _ b)
theorem QF {l:OpenLaw} {n:Nat} (hn:l.most=some n) {P:Params} {h:Heap} {args:List WData} {vals:List Value}
  (hpre:l.row.toRowW.claim.pre args=true) (hwl:WellAll P h vals args):
  ∃a vs ns,vals=[Value.ref a]∧args=[WData.list (ns.map WData.int)]∧h.get? a=some { cls:=.type "list",data:=.seq vs.toArray }∧IntsAre vs ns∧ns.length≤n:=by
 have hsh:WShape.hasAll [] args [.list .int]=true:=(pre_splitW hpre).1
 have hc:l.pre.holds [] { args:=args }=true:=(pre_splitW hpre).2
 obtain ⟨d,r,rfl,h1,h2⟩:=hasAllW_cons hsh
 obtain rfl:=hasAllW_nil h2
 obtain ⟨xs,rfl,h3⟩:=hasW_list h1
 obtain ⟨ns,rfl⟩:=items_int h3
 have hlen:ns.length≤n:=by
  unfold OpenLaw.pre at hc
  have h4:(WTm.not (.lt (.lit (.int (n:Int))) (.len (.arg 0)))).holds [] { args:=[.list (ns.map .int)] }=true:=by
   have h4:=(holds_andW hc).1
   rw [hn] at h4
   exact h4
  have h5:=condW_of h4 (w_not (w_lt w_lit (w_len_list (w_arg rfl))))
  rw [kg] at h5
  refine Nat.le_of_not_lt fun q=>?_
  have q':(n:Int) < ((ns.length:Nat):Int):=by lia
  first
   | (rw [kf q'] at h5;exact absurd h5 (by decide))
   | (simp at h5;lia)
 cases hwl with
 | cons w1 w2=>
  cases w2
  cases w1 with
  | list ho hall=>exact ⟨_,_,ns,rfl,rfl,ho,qY ns _ hall,hlen⟩
theorem QR (l:OpenLaw) (args:List WData):l.row.toRowW.claim.post args (.bool true) args=true:=
 postW_of (r:=l.row.toRowW) (X:=(true == true))
  (show WShape.has [] (.bool true) .bool=true by first | rfl | decide | simp [WShape.has,WShape.arms,WShape.armsAll])
  (show (WTm.eq .res (.lit (.bool true))).value [] { args:=args,res:=some (.bool true),after:=args }=some (.bool (true == true)) from w_eq_bool (w_res rfl) w_lit) rfl
theorem attach_call {l:OpenLaw} {n:Nat} {q:Program} {loose:List Str} {XP:(Str→Option Value)→Heap→Prop} {YP:World→Heap→Prop} {d:DefRec}
  (hn:l.most=some n) (hdf:d.params.defaults=[])
  (call:∀(w:World) (s₀ s₁:Shared) (mg mb:Str→Option Value) (fa:Addr) (o:Obj) (pm cd doc:Value) (a:Addr) (vs:List Value) (ns:List Int),
   Ground q loose [] XP w s₀ mg mb s₁.heap→YP w s₁.heap→
   s₁.heap.get? fa=some o→o.data=.func (docDef d.name d.params d.body d.scope pm cd doc)→s₁.heap.CodeRec cd d.name→mg d.name=some (.ref fa)→
   s₁.heap.get? a=some { cls:=.type "list",data:=.seq vs.toArray }→IntsAre vs ns→ns.length≤n→s₁.gens=#[]→
   codeAny (model l.prog w) callerA (.call (.ref fa) ⟨[.ref a],[]⟩) (fun r s'=>r=.ok (.ret (.bool true))∧OldK s₁.heap s'.heap∧s'.os=s₁.os∧AllBare s'.gens) s₁):
  WalkO q loose XP YP l.row.toRowW d [] (fun f vs=>PySem.call f vs):=by
 intro w s₀ s₁ mg mb G Y fa o pm cd doc dV kV ho hd hcd hD hmg hg args vals as hpre hlay hrd hwl hlo
 obtain rfl:dV=.none:=Dflts.none hD hdf
 obtain rfl:kV=.none:=Dflts.noKw hD
 obtain ⟨a,vs,ns,rfl,rfl,hobj,hints,hlen⟩:=QF hn hpre hwl
 refine enter_call (codeAny_mono (call w s₀ s₁ mg mb fa o pm cd doc a vs ns G Y ho (fd_plain hd) hcd hmg hobj hints hlen hg) fun r s' hq=>?_)
 obtain ⟨rfl,h2,h3,h4⟩:=hq
 exact ⟨.inl ⟨.bool true,.bool true,[],rfl,fun _=>rfl,.bool true,QR l _,fun _=>⟨List.Pairwise.nil,fun _ hm=>(nomatch hm)⟩⟩,h2,h3,h4⟩
section
variable {prog:Program} {w:World} {A:Around} {E:Value→Shared→Prop} {s:Shared} {K:Frag}
end
end Att
namespace L2
open PySem PySem.Spec PyProof.Rows
theorem qO:∀{vs:List Value} {ns:List Int},IntsAre vs ns→Vals (ns.map V.int) vs
 | _,_,.nil=>.nil
 | _,_,.cons n t h=>.cons ⟨t,rfl⟩ (qO h)
def Only (H:Hp):Prop:=∀b,H b=none∨∃o xs,H b=some (.frz o (.lst xs))
theorem JW {P:Program} {w:World} {K:ko} {mg mb:Str→Option Value} {CX:CXT} {k:Nat} {fa a:Addr} {fd:FuncData} {x:Str} {sp:Sp} {s₁:Shared} {vs:List Value} {ns:List Int}
  (KX:K.In s₁.heap) (hns:s₁.heap.Ns mainGlobals mg) (hb:s₁.heap.Ns builtinsNs mb) (hbb:∀x:Str,x≠"__name__"→mb x=bootBuiltins x) (hlim:s₁.heap.NoLimit) (hg:s₁.gens=#[])
  (ha:s₁.heap.get? a=some { cls:=.type "list",data:=.seq vs.toArray }) (hi:IntsAre vs ns) (hl:ns.length≤sizeLine) (hr:Room k callerA)
  (F:∀base:Heap,K.In base→base.Ns mainGlobals mg→FnOk P w K mg base CX k fa fd [x] sp) (hbind:∀(s:Shared) (u:Value),BindsTo s fd ⟨[u],[]⟩ [(x,u)])
  (hsp:∀H:Hp,Only H→SqL K H a (ns.map V.int)→sp [.ref a] H (fun v _=>v=.bl true) fun _ _ _=>False)
  (hCX:∀H e s',CX [] H s₁ (fun _ _ _=>False) e s'→False):
  codeAny (model P w) callerA (.call (.ref fa) ⟨[.ref a],[]⟩) (fun r s'=>r=.ok (.ret (.bool true))∧OldK s₁.heap s'.heap∧s'.os=s₁.os∧AllBare s'.gens) s₁:=by
 have rv:=qO hi
 have lenV:=hi.length
 have core:∀H:Hp,Only H→SqL K H a (ns.map V.int)→HOk P w H s₁.heap→(∀b,H b≠none→b=a)→(H a≠none→K.lookup a=none)→
   codeAny (model P w) callerA (.call (.ref fa) ⟨[.ref a],[]⟩) (fun r s'=>r=.ok (.ret (.bool true))∧OldK s₁.heap s'.heap∧s'.os=s₁.os∧AllBare s'.gens) s₁:=by
  intro H hO hS hok hA hK
  have base_of:∀{b:Addr} {o:Obj},s₁.heap.get? b=some o→H b=none→(hidT s₁.heap H).get? b=some o:=fun e n=>z01 e n
  have noA:∀{b:Addr} {o:Obj} {es:Array DictEntry} {ep:Nat},s₁.heap.get? b=some o→o.data=.dict es ep→H b=none:=fun {b o es ep} e d=>by
   cases q:H b with
   | none=>rfl
   | some u=>
    have e':b=a:=hA b (by rw [q];simp)
    subst e'
    rw [ha] at e;cases e
    have d':Data.seq vs.toArray _=Data.dict es ep:=d
    cases d'
  have nsK:∀{b:Addr} {m:Str→Option Value},s₁.heap.Ns b m→(hidT s₁.heap H).Ns b m:=fun {b m} ⟨o,es,ep,e,d,r⟩=>⟨o,es,ep,base_of e (noA e d),d,r⟩
  have hKb:K.In (hidT s₁.heap H):=fun b o e=>base_of (KX b o e) (by
   cases q:H b with
   | none=>rfl
   | some u=>
    have e':b=a:=hA b (by rw [q];simp)
    subst e'
    rw [hK (by rw [q];simp)] at e;cases e)
  have hM:Mod K mg (hidT s₁.heap H):=⟨hKb,nsK hns,⟨mb,nsK hb,hbb⟩,let ⟨mc,h1,h2⟩:=hlim;⟨mc,nsK h1,h2⟩⟩
  have e0:Env0 P w K mg (hidT s₁.heap H) callerA [] s₁ H:=⟨rfl,hM,fun b o e=>z13 e,kO (Jh _ _),trivial,fun b hb=>absurd (show b∈([]:List Addr) from hb) (by simp),hok,.of_eq hg⟩
  refine codeAny_mono ((F _ hKb (nsK hns)).run callerA [] s₁ H ⟨[.ref a],[]⟩ [.ref a] [.ref a] _ _ hr e0 (hbind s₁ (.ref a)) (.cons rfl .nil) (hsp H hO hS)) fun r s' h=>?_
  cases r with
  | error e=>exact (hCX H e s' h).elim
  | ok fl=>
   cases fl with
   | next=>exact False.elim h
   | brk=>exact False.elim h
   | cont=>exact False.elim h
   | ret u=>
    obtain ⟨v,H',os,bare,un,hok',r',q⟩:=h
    have q':v=.bl true:=q
    subst q'
    obtain rfl:u=Value.bool true:=r'
    refine ⟨rfl,OldK.of_keep fun b o e=>?_,os,bare⟩
    cases q:H b with
    | none=>exact un.keep b o e q (by intro z;exact absurd (show b∈([]:List Addr) from z) (by simp)) (by simp)
    | some u=>
     rcases hO b with z | ⟨ob,xs,z⟩
     ·rw [q] at z;cases z
     ·have z2:=un.frzs b ob _ z
      obtain ⟨e1,_⟩:=hok b _ z
      obtain ⟨e2,_⟩:=hok' b _ z2
      rw [e] at e1;cases e1
      exact e2
 cases hk:K.lookup a with
 | some o=>
  have e:=KX a o hk
  rw [ha] at e
  cases e
  refine core (fun _=>none) (fun _=>.inl rfl) (.inr ⟨_,vs.toArray,_,hk,rfl,rfl,rfl,by rw [kx,lenV];exact hl,by simpa using rv⟩) (fun b u z=>by have z':(none:Option HO)=some u:=z;cases z') (fun b z=>absurd rfl z) fun z=>absurd rfl z
 | none=>
  refine core (fun b=>if b=a then some (.frz { cls:=.type "list",data:=.seq vs.toArray } (.lst (ns.map V.int))) else none) (fun b=>?_) (.inl (.inr ⟨{ cls:=.type "list",data:=.seq vs.toArray },kr rfl⟩)) (fun b u z=>?_) (fun b z=>?_) fun _=>hk
  ·by_cases hb:b=a
   ·exact .inr ⟨_,_,kr hb⟩
   ·exact .inl (kq hb)
  ·by_cases hb:b=a
   ·have z':=(kr hb).symm.trans z
    cases z'
    subst hb
    exact ⟨ha,by rw [kg];exact hl,vs,_,rv,ha⟩
   ·have z':=(kq hb).symm.trans z
    cases z'
  ·by_cases hb:b=a
   ·exact hb
   ·exact absurd (kq hb) z
end L2
namespace L2
open PySem PySem.Spec PyProof.Rows
theorem z0L {l:PySem.W.OpenLaw} {n k:Nat} {q:Program} {loose:List Str} {XP:(Str→Option Value)→Heap→Prop} {YP:World→Heap→Prop} {d:DefRec} {K:Params→ko} {CX:World→CXT} {sp:World→Sp} {x:Str}
  (hn:l.most=some n) (hn2:n≤sizeLine) (hdf:d.params.defaults=[]) (hr:Room k callerA)
  (hY:∀(w:World) (h:Heap),YP w h→(K w.params).In h)
  (F:∀(w:World) (mg:Str→Option Value) (fa:Addr) (h:Heap),(K w.params).In h→h.Ns mainGlobals mg→mg d.name=some (.ref fa)→
   ∃fd:FuncData,(∀(s:Shared) (u:Value),BindsTo s fd ⟨[u],[]⟩ [(x,u)])∧
    ∀base:Heap,(K w.params).In base→base.Ns mainGlobals mg→FnOk l.prog w (K w.params) mg base (CX w) k fa fd [x] (sp w))
  (hsp:∀(w:World) (H:Hp) (a:Addr) (ns:List Int),ns.length≤n→Only H→SqL (K w.params) H a (ns.map V.int)→sp w [.ref a] H (fun v _=>v=.bl true) fun _ _ _=>False)
  (hCX:∀(w:World) (H:Hp) (s:Shared) (e:Value) (s':Shared),CX w [] H s (fun _ _ _=>False) e s'→False):
  PySem.W.WalkO q loose XP YP l.row.toRowW d [] (fun f vs=>PySem.call f vs):=by
 refine Att.attach_call hn hdf fun w s₀ s₁ mg mb fa o pm cd doc a vs ns G Y ho hd hcd hmg hobj hints hlen hg=>?_
 have KX:=hY w _ Y
 obtain ⟨fd,hb,hF⟩:=F w mg fa _ KX G.T.g hmg
 exact JW KX G.T.g G.T.b G.T.builtins G.T.nolimit hg hobj hints (km hlen hn2) hr hF hb (fun H hO hS=>hsp w H a ns hlen hO hS) fun H e s'=>hCX w H s₁ e s'
end L2
namespace L2
open PySem PySem.Spec PyProof.Rows
noncomputable def zO (s:Stmt):Arguments:=match s with
 | .FunctionDef _ a _ _ _ _ _ _ _ _=>a
 | _=>{ posonlyargs:=[],args:=[],vararg:=none,kwonlyargs:=[],kw_defaults:=[],kwarg:=none,defaults:=[] }
noncomputable def zx (s:Stmt):List Stmt:=match s with
 | .FunctionDef _ _ b _ _ _ _ _ _ _=>b
 | _=>[]
noncomputable def za (s:Stmt):Scope:=match s with
 | .FunctionDef _ _ _ _ _ _ sc _ _ _=>sc
 | _=>{ kind:=.function,names:=[],isGenerator:=false,isCoroutine:=false }
abbrev CX0:CXT:=fun _ _ _ _ _ _=>False
abbrev E0:XK:=fun _ _ _=>False
theorem z2D {X:Cx}:Qd CX0 X E0:=fun _ _ _ _ _ _ _ h=>h.elim
structure Fun (K:ko) (x qual:Str) (st:Stmt) (f:Addr) (fd:FuncData):Prop where
 ex:∃(oc:Value) (od:Option Addr) (kV doc pm:Value) (an:Option Addr) (cdv ct:Value) (osl:Array (Option Value)),
  fd=PySem.W.fnOf x qual (zO st) (zx st) (za st) .none kV doc pm an cdv ct∧K.lookup f=some ⟨oc,od,.func fd,osl⟩∧PySem.W.codeIn K cdv qual=true
 kp:PySem.W.keepIn K (.ref f)=true
section
variable {P:Program} {w:World} {K:ko} {mg:Str→Option Value} {base:Heap}
theorem Fun.ok {x qual:Str} {st:Stmt} {f:Addr} {fd:FuncData} {N ps:List Str} {k:Nat} {sp:Sp} (F:Fun K x qual st f fd) (S:zl N ps (za st)) (len:∀vs H Q E,sp vs H Q E→vs.length=ps.length)
  (hbody:∀(cdv:Value) (A:Around) (outer:List Env) (s:Shared) (H:Hp) (vs:List V) (Q:VK) (E:XK),Room k (A.deeper (envOfC qual (za st) s.heap.objs.size f cdv))→sp vs H Q E→
   ∃t,PSs (cxOf CX0 P w K mg base N qual (za st) f cdv A outer s H E).nox (zx st) t∧t { nx:=fun _ H'=>Q .non H',rt:=Q } (start N vs) H):FnOk P w K mg base CX0 (k+1) f fd ps sp:=by
 obtain ⟨oc,od,kV,doc,pm,an,cdv,ct,osl,rfl,lk,hcd⟩:=F.ex
 refine z2e lk hcd S len fun A outer s H vs Q E hr hsp=>?_
 obtain ⟨t,h,q⟩:=hbody cdv A outer s H vs Q E hr hsp
 exact ⟨t,h.nox,q⟩
theorem Fun.binds {x qual:Str} {st:Stmt} {f:Addr} {fd:FuncData} {ps:List Str} (F:Fun K x qual st f fd)
  (h:∀(kV doc pm:Value) (an:Option Addr) (cdv ct:Value) (us:List Value),us.length=ps.length→bindArgs (PySem.W.fnOf x qual (zO st) (zx st) (za st) .none kV doc pm an cdv ct) ⟨us,[]⟩=pure (ps.zip us)):Zr K fd ps []:=by
 obtain ⟨oc,od,kV,doc,pm,an,cdv,ct,osl,rfl,lk,hcd⟩:=F.ex
 exact .all (h kV doc pm an cdv ct)
theorem z0E {x qual:Str} {st:Stmt} {f:Addr} {oc:Value} {od an:Option Addr} {osl:Array (Option Value)} {kV doc pm cdv ct:Value} (l:K.lookup f=some ⟨oc,od,.func (PySem.W.fnOf x qual (zO st) (zx st) (za st) .none kV doc pm an cdv ct),osl⟩)
  (c:PySem.W.codeIn K cdv qual=true) (k:PySem.W.keepIn K (.ref f)=true):Fun K x qual st f (PySem.W.fnOf x qual (zO st) (zx st) (za st) .none kV doc pm an cdv ct):=⟨⟨oc,od,kV,doc,pm,an,cdv,ct,osl,rfl,l,c⟩,k⟩
end
theorem z2N {A:Around} {k:Nat} (hr:Room k A):A.units+1 < cLine:=Nat.lt_of_le_of_lt (Nat.add_le_add_left (by decide:1≤64) _) hr.units
section
variable {X:Cx}
theorem pv (i:Nat) {x:Str} {pos:Pos} (hN:autoParam (X.N[i]?=some x) aR._auto_1) (hv:Vis X.env.scope x:=by first | exact Or.inl rfl | exact Or.inr (Or.inl rfl) | exact Or.inr (Or.inr rfl)) (hd:autoParam ((x == ("__debug__":Str))=false) aR._auto_2)
  (hcd:autoParam ((x == ("__classdict__":Str))=false) aR._auto_2):PE X (.Name x pos) (tVar i):=z1T hN hv hd hcd
end
theorem iteF {A B:Prop} (h:B):if false=true then A else B:=by
 rw [kq ka]
 exact h
theorem iteT {A B:Prop} (h:A):if true=true then A else B:=by
 rw [kr rfl]
 exact h
theorem ite2 {c A B:Prop} [Decidable c] (h1:c→A) (h2:¬c→B):if c then A else B:=by
 by_cases h:c
 ·rw [kr h]
  exact h1 h
 ·rw [kq h]
  exact h2 h
def Same (H H':Hp):Prop:=∀b o,H b=some o→H' b=some o
theorem Same.refl (H:Hp):Same H H:=fun _ _ h=>h
theorem Same.trans {H H1 H2:Hp} (a:Same H H1) (b:Same H1 H2):Same H H2:=fun c o h=>b c o (a c o h)
theorem Same.free {H H':Hp} (e:Same H H') {l:Addr} (h:H' l=Option.none):H l=Option.none:=by
 cases q:H l with
 | none=>rfl
 | some o=>
  rw [e l o q] at h
  cases h
theorem Same.seq {K:ko} {H H':Hp} {a:Addr} {xs:List V} (e:Same H H') (h:SqL K H a xs):SqL K H' a xs:=by
 rcases h with (h | ⟨o,h⟩) | h
 ·exact .inl (.inl (e _ _ h))
 ·exact .inl (.inr ⟨o,e _ _ h⟩)
 ·exact .inr h
section
variable {κ:Type} [DecidableEq κ]
end
end L2
set_option genInjectivity false
set_option maxRecDepth 100000
set_option maxHeartbeats 4000000
namespace L2
open PySem PySem.Spec PyProof.Rows
theorem Z8 {names:List (Str × NameKind)} {k:NameKind} (h:∀y∈names,y.2≠k) (x:Str):names.lookup x≠some k:=fun e=>h _ (PySem.mem_of_lookup e) rfl
theorem Qg {scope:Scope} {env:Env} (h:∀y∈scope.names,y.2≠.free):relabel scope env=scope:=by
 unfold relabel
 rw [map_eq_self (l:=scope.names) (fun x hx=>by
  obtain ⟨n,k⟩:=x
  have:(k == NameKind.free)=false:=by simpa using h _ hx
  simp [this])]
section
variable {X:Cx}
def JD (i:Nat) (te:TE):TS:=fun D σ H=>te σ H fun v H1=>D.nx (σ.set i (some v)) H1
end
end L2
namespace L2
open PySem PySem.Spec PyProof.Rows
section
variable {X:Cx}
end
end L2
namespace L2
open PySem PySem.Spec PyProof.Rows
section
variable {X:Cx}
theorem zG:qK X (.builtin "isinstance") (fun xs H Q=>∃x T t b,xs=[x,.ty T]∧TyOf X.K H x t∧PySem.W.kitOne X.K t (.type T)=some b∧Q (.bl b) H):=by
 intro pins s σ H xs us Q I r h
 obtain ⟨x,T,t,b,rfl,ty,e,q⟩:=h
 obtain ⟨u,u2,rfl,ru,r2⟩:=z1x r
 cases r2
 exact Jd I ru ty e fun tk=>⟨.bl b,H,I.tok tk,rfl,q⟩
end
end L2
namespace L2
open PySem PySem.Spec PyProof.Rows
section
variable {X:Cx}
def rEqE (K:ko):R2:=fun x y H Q=>∃p q xs,x=.ref p∧y=.ref q∧SqL K H p xs∧SqL K H q []∧Q (.bl (decide (xs=[]))) H
theorem z0z (hu:X.A.units < cLine):OpR X (compareOp .Eq) (rEqE X.K):=by
 intro pins s σ H x y v u Q I rx ry h
 obtain ⟨p,q,xs,rfl,rfl,h1,h2,hq⟩:=h
 cases rx
 cases ry
 obtain ⟨its,r,pl,_⟩:=I.list h1
 obtain ⟨its2,r2,pl2,_⟩:=I.list h2
 cases r2
 cases r with
 | nil=>
  refine SeqAt.eq_listAt (e:=fun _=>true) pl.isList pl2.isList rfl hu (fun j h1 _=>absurd h1 (by simp)) ⟨.bl _,H,I,rfl,?_⟩
  simpa using hq
 | cons a b=>
  refine SeqAt.eq_list_lengthsAt pl.isList pl2.isList (by simp) hu ⟨.bl _,H,I,rfl,?_⟩
  simpa using hq
theorem jP:∀{as:List Addr} {us:List Value},Vals (as.map V.ref) us→us=as.map Value.ref:=by
 intro as
 induction as with
 | nil=>intro us r;cases r;rfl
 | cons a r ih=>
  intro us h
  cases h with
  | cons x y=>cases x;rw [ih y];rfl
end
end L2
namespace L2
open PySem PySem.Spec PyProof.Rows
theorem Zh {prog:Program} {w:World} {A:Around} {R:Result→Shared→Prop} {s:Shared} {elt target iter:Expr} {ifs:List Expr} {scope:Scope} {pos:Pos} {it acc:Value} {env:Env} (I:Nat→Shared→Prop)
  (turn:∀n s,I n s→wpAny (model prog w) A (pyNext it) (fun r s₁=>match r with
   | none=>R (.ok .next) s₁
   | some v=>wpAny (model prog w) A (letOwnedTupleGo target it v) (fun _ s₁'=>wpAny (model prog w) A (assign target env v) (fun _ s₂=>
     wpAny (model prog w) A (forIn ifs true fun c r=>if r=true then do let ok ←isTrue c env (eval c env);pure (ForInStep.yield ok) else pure (ForInStep.yield r)) (fun ok s₃=>
     if ok=true then wpAny (model prog w) A (eval elt env) (fun x s₃'=>
      wpAny (model prog w) A (call (.builtin "list.append") [acc,x]) (fun _ s₄=>∃m,m < n∧I m s₄) (fun _ _=>False) s₃') (fun _ _=>False) s₃
     else ∃m,m < n∧I m s₃)
     (fun _ _=>False) s₂) (fun _ _=>False) s₁') (fun _ _=>False) s₁) (fun _ _=>False) s)
  (n:Nat) (h:I n s):codeAny (model prog w) A (.compLoop (.ListComp elt [⟨target,iter,ifs,0⟩] scope pos) 0 it acc env) R s:=by
 refine codeAny_loop rfl I (fun n s hI=>?_) n h
 show wpAny _ _ ((compTurn (.ListComp elt [⟨target,iter,ifs,0⟩] scope pos) 0 it acc env).onRaise (fun x=>do noteFrame x env;theTreesLotGoes x)) _ _ s
 refine wpAny_noted ?_
 rw [compTurn_list]
 refine wpAny_bind (wpAny_standAt (wpAny_bind (wpAny_mono (turn n s hI) (fun r s₁ h₁=>?_) fun _ _ h'=>h'.elim)))
 cases r with
 | none=>exact wpAny_pure h₁
 | some v=>
  refine wpAny_bind (wpAny_mono h₁ (fun _ s₁' h₁'=>?_) fun _ _ h'=>h'.elim)
  refine wpAny_bind (wpAny_mono h₁' (fun _ s₂ h₂=>wpAny_bind (wpAny_mono h₂ (fun ok s₃ h₃=>?_) fun _ _ h'=>h'.elim)) fun _ _ h'=>h'.elim)
  cases ok with
  | true=>
   rw [kr rfl] at h₃ ⊢
   exact wpAny_bind (wpAny_bind (wpAny_mono h₃ (fun x s₃' h₃'=>wpAny_bind (wpAny_mono h₃' (fun _ s₄ h₄=>wpAny_pure (wpAny_pure ⟨rfl,h₄⟩)) fun _ _ h'=>h'.elim)) fun _ _ h'=>h'.elim))
  | false=>
   rw [kq ka] at h₃ ⊢
   exact wpAny_bind (wpAny_pure (wpAny_pure ⟨rfl,h₃⟩))
noncomputable abbrev zB (X:Cx) (N:List Str) (scope:Scope) (cl:List (Str × Addr)) (s:Shared) (H:Hp) (fp:List Addr) (C:Addr):Cx where
 prog:=X.prog
 w:=X.w
 K:=X.K
 mg:=X.mg
 base:=X.base
 A:=X.A
 N:=N
 s₀:=s
 H₀:=H
 env:=compEnvC scope cl C X.env
 outer:=X.stack
 stack:=X.stack
 ex:=fp
 fn:=fun _=>false
 calm:=true
 pn:=[]
 xe:=fun _ _=>False
structure qc (X:Cx) (N:List Str) (nt:Nat) (ix:List Nat) (scope:Scope) (cl:List (Str × Addr)):Prop where
 clos:closureFor scope X.env=pure cl
 nocell:∀y∈scope.names,y.2≠.cell
 kind:scope.kind=.function
 names:∀y∈scope.names,y.2=.local→scope.names.lookup y.1=some .local
 sub:∀x c,cl.lookup x=some c→X.env.cells.lookup x=some c
 has:∀x,((relabel scope X.env).names.lookup x=some .cell∨(relabel scope X.env).names.lookup x=some .free)→∃c,cl.lookup x=some c
 len:N.length=nt+ix.length
 free:∀j x,N[nt+j]?=some x→∃i,ix[j]?=some i∧X.N[i]?=some x∧X.env.kindOf x=some .cell∧(relabel scope X.env).names.lookup x=some .cell∧∀c,X.env.cells.lookup x=some c→cl.lookup x=some c
noncomputable def j8 (nt:Nat) (ix:List Nat) (σ:St):St:=List.replicate nt none++ix.map fun i=>(σ[i]?).join
def PTs (X:Cx) (ifs:List Expr) (tc:TT):Prop:=
 ∀(pins:List (Addr × Obj)) (s:Shared) (σ:St) (H:Hp) (Q:Bool→Hp→Prop),Inv X pins σ H s→tc σ H Q→
  wpAny (model X.prog X.w) X.A (forIn ifs true fun c r=>if r=true then do let ok ←isTrue c X.env (eval c X.env);pure (ForInStep.yield ok) else pure (ForInStep.yield r)) (TP X pins σ Q) X.xe s
def tAll:TT:=fun _ H Q=>Q true H
theorem Zw {X:Cx}:PTs X [] tAll:=fun pins s σ H Q I h=>wpAny_tests_nil ⟨H,I,h⟩
theorem jy {X:Cx} {c:Expr} {tc:TT} (h:PT X c tc):PTs X [c] tc:=fun pins s σ H Q I hq=>wpAny_tests_one (h pins s σ H Q I hq)
def z0l (nt:Nat) (ix:List Nat) (wi:TI) (g:TG) (tc:TT) (te:TE):TE:=fun σ H Q=>wi σ H fun J H1=>∀l,H1 l=none→∃W:Nat→Nat→List V→St→Hp→Prop,(∃m,W 0 m [] (j8 nt ix σ) (upd H1 l (.lst [])))∧∀i m ys σ' H2,W i m ys σ' H2→
 (J.stop i H2∧Q (.ref l) H2)∨(J.go i H2∧∀x H3,J.yld i H2 x H3→g x σ' H3 fun σ2 H4=>tc σ2 H4 fun b H5=>if b=true then te σ2 H5 fun v H6=>H6 l=some (.lst ys)∧ys.length < sizeLine∧∃m',m' < m∧W (i+1) m' (ys++[v]) σ2 (upd H6 l (.lst (ys++[v])))
  else ∃m',m' < m∧W (i+1) m' ys σ2 H5)
section
variable {X:Cx}
theorem j7 {elt iter tg:Expr} {ifs:List Expr} {N:List Str} {nt:Nat} {ix:List Nat} {scope:Scope} {cl:List (Str × Addr)} {pos:Pos} {pins:List (Addr × Obj)} {σ:St} {H:Hp} {s:Shared} {it:Addr} {fp:List Addr} {tn:Nat→Heap→Prop} {J:It} {g:TG} {tc:TT} {te:TE} {Q:VK} {E:Value→Shared→Prop}
  {RR:Value→Addr→Result→Shared→Prop}
  (hc:X.calm=true) (sc:qc X N nt ix scope cl) (I:Inv X pins σ H s) (T:Turn X.prog X.w X.K tg J fp it tn) (st:tn 0 s.heap) (hf:∀b∈fp,FpOk X pins H b)
  (hg:∀(s:Shared) (H:Hp) (fp:List Addr) (C:Addr),PG (zB X N scope cl s H fp C) tg g)
  (ht:∀(s:Shared) (H:Hp) (fp:List Addr) (C:Addr),PTs (zB X N scope cl s H fp C) ifs tc)
  (he:∀(s:Shared) (H:Hp) (fp:List Addr) (C:Addr),PE (zB X N scope cl s H fp C) elt te)
  (h:∀l,H l=none→∃W:Nat→Nat→List V→St→Hp→Prop,(∃m,W 0 m [] (j8 nt ix σ) (upd H l (.lst [])))∧∀i m ys σ' H2,W i m ys σ' H2→
   (J.stop i H2∧Q (.ref l) H2)∨(J.go i H2∧∀x H3,J.yld i H2 x H3→g x σ' H3 fun σ2 H4=>tc σ2 H4 fun b H5=>if b=true then te σ2 H5 fun v H6=>H6 l=some (.lst ys)∧ys.length < sizeLine∧∃m',m' < m∧W (i+1) m' (ys++[v]) σ2 (upd H6 l (.lst (ys++[v])))
    else ∃m',m' < m∧W (i+1) m' ys σ2 H5))
  (hRR:∀D C s' H' m,Inv X pins σ H' s'→s'.heap.Ns C m→C≠X.env.locals→H' C=none→X.s₀.heap.objs.size≤C→(∀x c,X.env.cells.lookup x=some c→c≠C)→(∀p∈X.pn++pins,p.1≠C)→Q (.ref D) H'→RR (.ref D) C (.ok .next) s'):
  wpAny (model X.prog X.w) X.A (newList []) (fun acc s₃=>wpAny (model X.prog X.w) X.A (newFunctionEnv scope X.env.globals cl [] X.env.qual none .none (some X.env)) (fun cenv s₄=>
   codeAny (model X.prog X.w) X.A (.compStart (.ListComp elt [⟨tg,iter,ifs,0⟩] scope pos) 0 (.ref it) acc { cenv with scope:=relabel scope X.env }) (RR acc cenv.locals) s₄) E s₃) E s:=by
 refine wpAny_newObj_type ?_
 have I3:Inv X pins σ (upd H s.heap.objs.size (.lst [])) { s with heap:=s.heap.push { cls:=.type "list",data:=.seq ([]:List Value).toArray } }:=I.lnew (ys:=[]) (its:=[]) (t':=s.toks) .nil (Nat.zero_le _)
 have st3:tn 0 (s.heap.push { cls:=.type "list",data:=.seq ([]:List Value).toArray }):=T.keep _ _ _ st fun b hb o e=>Heap.get?_push_of_some _ e
 have fpl:∀b∈fp,b < s.heap.objs.size:=fun b hb=>by
  obtain ⟨o,e,_⟩:=T.obj _ _ st b hb
  exact Heap.lt_size e
 obtain ⟨W,⟨m0,w0⟩,turn⟩:=h s.heap.objs.size I.fresh
 have hf3:∀b∈fp,FpOk X pins (upd H s.heap.objs.size (.lst [])) b:=fun b hb=>⟨by rw [zf (Nat.ne_of_lt (fpl b hb))];exact (hf b hb).1,(hf b hb).2⟩
 generalize hD:s.heap.objs.size=D at *
 generalize hH3:upd H D (HO.lst [])=H3 at *
 generalize hs3:({ s with heap:=s.heap.push { cls:=.type "list",data:=.seq ([]:List Value).toArray } }:Shared)=s3 at *
 have hsz3:s3.heap.objs.size=D+1:=by rw [←hs3,←hD];exact Heap.size_push ..
 have st3':tn 0 s3.heap:=by rw [←hs3];exact st3
 refine wpAny_newFunctionEnv (s:=s3) sc.nocell (by intro y hy;simp at hy) (fun h1 hns hsb=>?_) sc.kind
 generalize hC:s3.heap.objs.size=C at *
 have kept:∀b o,s3.heap.get? b=some o→h1.get? b=some o:=fun b o e=>hsb.extBut b o (by rw [←hC];exact Nat.ne_of_lt (Heap.lt_size e)) (Heap.get?_push_of_some _ e)
 show codeAny (model X.prog X.w) X.A (.compStart (.ListComp elt [⟨tg,iter,ifs,0⟩] scope pos) 0 (.ref it) (.ref D) (compEnvC scope cl C X.env)) (RR (.ref D) C) { s3 with heap:=h1,toks:=s3.toks+0 }
 have fpC:∀b∈fp,b≠C:=fun b hb=>Nat.ne_of_lt (kE (fpl b hb) (by rw [hsz3];exact Nat.le_succ D))
 have cellC:∀x c,cl.lookup x=some c→c≠C:=fun x c e z=>by
  obtain ⟨v,q⟩:=I3.cell x c (sc.sub x c e)
  have:=q.lt
  rw [hC,z] at this
  exact Nat.lt_irrefl _ this
 have ok:(zB X N scope cl s3 H3 fp C).Ok:={
  mod:=I.ok.mod,kind:=(show (relabel scope X.env).kind=.function from sc.kind),glob:=I.ok.glob,blt:=I.ok.blt,above:=kO hC
  inj:=fun y z c e e'=>I.ok.inj y z c (sc.sub y c e) (sc.sub z c e')
  has:=fun y hy=>sc.has y hy
  cab:=fun y c e _=>nomatch e
  hd:=fun _=>I.ok.hd hc
  frames:=I.ok.frames
  stk:=.inl rfl
  exf:=fun b hb=>⟨fpC b hb,fun y c e=>(hf3 b hb).2.2.2.2.1 y c (sc.sub y c e)⟩
  bs:=I3.bs
  bsz:=km I.ok.bsz I3.sz
  noex:=fun b o e hb=>by
   obtain ⟨_,_,_,h4,_⟩:=hf3 b hb
   rcases h4 with z | z
   ·exact I.ok.noex b o e z
   ·exact absurd (kE (Heap.lt_size (I.ok.bs b o e).1) z) (Nat.lt_irrefl _)
  exfs:=fun b hb z=>by
   obtain ⟨_,h1,h2,_⟩:=hf3 b hb
   rcases kw.mp (I3.stkSub b z) with q | q
   ·exact h1 q
   ·exact h2 q
  funs:=I3.stack
  frf:=I3.stkFree }
 have cellK:∀c v,s3.heap.IsCell c v→h1.IsCell c v:=fun c v ⟨o,ho,hd⟩=>⟨o,kept c o ho,hd⟩
 have I4:Inv (zB X N scope cl s3 H3 fp C) [] (j8 nt ix σ) H3 { s3 with heap:=h1,toks:=s3.toks+0 }:={
  ok:=ok,os:=rfl,bare:=I3.bare,base:=Un.kept kept
  loc:=⟨_,hns,fun i y v e1 e2 _=>by
   have e2:(j8 nt ix σ)[i]?=some (some v):=e2
   unfold j8 at e2
   by_cases hi:i < nt
   ·rw [kX (by simpa using hi),List.getElem?_replicate,kr hi] at e2
    cases e2
   ·obtain ⟨j,rfl⟩:∃j,i=nt+j:=⟨i - nt,by lia⟩
    rw [kY (by simp),List.length_replicate,Nat.add_sub_cancel_left,List.getElem?_map] at e2
    obtain ⟨k,hk,hXN,hkind,hrel,hcl⟩:=sc.free j y e1
    rw [hk] at e2
    have e3:σ[k]?=some (some v):=by
     cases q:σ[k]? with
     | none=>rw [Option.map_some,q] at e2;cases e2
     | some o=>rw [Option.map_some,q] at e2;simpa using e2
    obtain ⟨m,_,hl⟩:=I3.loc
    obtain ⟨u,ru,lk⟩:=hl k y v hXN e3 (.inr (.inl hkind))
    refine ⟨u,ru,.inr ⟨.inl hrel,?_⟩⟩
    rcases lk with ⟨z,_⟩ | ⟨_,c,hcc,hcell⟩
    ·rw [hkind] at z;cases z
    ·exact ⟨c,hcl c hcc,cellK _ _ hcell⟩⟩
  cell:=fun y c e=>let ⟨v,q⟩:=I3.cell y c (sc.sub y c e);⟨v,cellK _ _ q⟩
  free:=I3.hok.fresh (kO hC)
  freeC:=fun y c e=>I3.freeC y c (sc.sub y c e)
  pin:=fun p hp=>absurd (show p∈([]:List (Addr × Obj)) from hp) (by simp)
  hok:=I3.hok.kept kept
  len:=by show (j8 nt ix σ).length=N.length;rw [sc.len];unfold j8;simp }
 have st4:tn 0 h1:=T.keep _ _ _ st3' fun b hb o e=>kept b o e
 have stat:∀{H':Hp},(∀b∈fp,H' b=none)→∀b∈fp,FpOk (zB X N scope cl s3 H3 fp C) [] H' b:=fun hn b hb=>⟨hn b hb,fpC b hb,ok.exfs b hb,.inl hb,(fun y c e=>(hf3 b hb).2.2.2.2.1 y c (sc.sub y c e)),fun p hp=>absurd (show p∈([]:List (Addr × Obj)) from hp) (by simp)⟩
 have loop:codeAny (model X.prog X.w) X.A (.compLoop (.ListComp elt [⟨tg,iter,ifs,0⟩] scope pos) 0 (.ref it) (.ref D) (compEnvC scope cl C X.env)) (RR (.ref D) C) { s3 with heap:=h1,toks:=s3.toks+0 }:=by
  refine Zh (fun n s'=>∃i ys σ' H',Inv (zB X N scope cl s3 H3 fp C) [] σ' H' s'∧tn i s'.heap∧(∀b∈fp,H' b=none)∧W i n ys σ' H') ?_ m0 ⟨0,[],_,H3,I4,st4,fun b hb=>(hf3 b hb).1,w0⟩
  rintro n s5 ⟨i,ys,σ5,H5,I5,st5,fr5,w5⟩
  rcases turn i n ys σ5 H5 w5 with ⟨stop,qn⟩ | ⟨go,step⟩
  ·refine thn (T.done (zB X N scope cl s3 H3 fp C) rfl rfl rfl rfl i [] s5 σ5 H5 _ I5 (stat fr5) st5 stop) fun r s6 zz=>?_
   obtain ⟨hr,I6⟩:=zz
   subst hr
   obtain ⟨m6,n6,_⟩:=I6.loc
   refine hRR D C s6 H5 m6 (I3.call' I6.os I6.base I6.hok I6.bare fun b hb=>?_) n6 (Nat.ne_of_gt (by have:=I3.lt;rw [hC] at this;exact this)) I6.free (by have:=I3.sz;rw [hC] at this;exact this) (fun y c e z=>?_) (fun p hp z=>?_) qn
   ·obtain ⟨_,h1,_,h4,h5,h6⟩:=hf3 b hb
    exact ⟨h4,h1,h5,h6⟩
   ·obtain ⟨v,q⟩:=I3.cell y c e
    have:=q.lt
    rw [hC,z] at this
    exact Nat.lt_irrefl _ this
   ·have:=Heap.lt_size (I3.pin p hp).1
    rw [hC,z] at this
    exact Nat.lt_irrefl _ this
  ·refine thn (T.item (zB X N scope cl s3 H3 fp C) rfl rfl rfl rfl i [] s5 σ5 H5 _ I5 (stat fr5) st5 go) fun r s6 zz=>?_
   obtain ⟨u,hr,h6⟩:=zz
   subst hr
   refine thn h6 fun _ s7 zz=>?_
   obtain ⟨v,H7,I7,r7,y7,st7,fr7⟩:=zz
   have I7':=I7.pinned (stat fr7) (T.obj _ _ st7)
   refine thn (hg s3 H3 fp C _ s7 σ5 H7 v u _ I7' r7 (step v H7 y7)) fun _ s8 zz=>?_
   obtain ⟨σ8,H8,I8,q8⟩:=zz
   refine thn (ht s3 H3 fp C _ s8 σ8 H8 _ I8 q8) fun b s9 zz=>?_
   obtain ⟨H9,I9,q9⟩:=zz
   have again:∀{sE:Shared} {HE:Hp} {ysE:List V} {m':Nat},Inv (zB X N scope cl s3 H3 fp C) ([]++jX fp s7.heap) σ8 HE sE→m' < n→W (i+1) m' ysE σ8 HE→∃m,m < n∧∃i ys σ' H',Inv (zB X N scope cl s3 H3 fp C) [] σ' H' sE∧tn i sE.heap∧(∀b∈fp,H' b=none)∧W i m ys σ' H':=fun {sE HE ysE m'} IE hm' wE=>by
    refine ⟨m',hm',i+1,ysE,σ8,HE,IE.unpinned (pins:=[]),T.keep _ _ _ st7 fun b hb o e=>(IE.pin (b,o) (kF _ (kF _ (qh hb e)))).1,fun b hb=>?_,wE⟩
    obtain ⟨o,e,d⟩:=T.obj _ _ st7 b hb
    exact (IE.pin (b,o) (kF _ (kF _ (qh hb e)))).2.1
   cases b with
   | false=>
    rw [kq ka] at q9 ⊢
    obtain ⟨m',hm',w9⟩:=q9
    exact again I9 hm' w9
   | true=>
    rw [kr rfl] at q9 ⊢
    refine thn (he s3 H3 fp C _ s9 σ8 H9 _ I9 q9) fun yv s10 zz=>?_
    obtain ⟨y,H10,I10,r10,q10⟩:=zz
    obtain ⟨hl9,hz9,m',hm',w9⟩:=q10
    obtain ⟨z9,its,k9,rv9,ll9,e9⟩:=I10.lstM hl9
    refine call_meets F.slot_list_append ⟨_,e9,rfl⟩ F.entry_list_append (F.args_list_append_2 _ _) (PySem.list_append D its.toArray k9 yv (by rw [kx];lia)) ⟨e9,?_⟩
    have I11:=I10.lset (t':=s10.toks) (its':=its++[yv]) (f:=(·.push yv)) hl9 e9 (by simp) (rv9.append (.cons r10 .nil)) (by rw [kh,ky];lia)
    exact again I11 hm' w9
 exact codeAny_compStart_list loop (T.self _ 0 _ _ _ st4 loop)
theorem qu {elt iter tg:Expr} {ifs:List Expr} {N:List Str} {nt:Nat} {ix:List Nat} {scope:Scope} {cl:List (Str × Addr)} {pos:Pos} {wi:TI} {g:TG} {tc:TT} {te:TE} (hc:X.calm=true) (sc:qc X N nt ix scope cl) (hi:PI X tg iter wi)
  (hg:∀(s:Shared) (H:Hp) (fp:List Addr) (C:Addr),PG (zB X N scope cl s H fp C) tg g)
  (ht:∀(s:Shared) (H:Hp) (fp:List Addr) (C:Addr),PTs (zB X N scope cl s H fp C) ifs tc)
  (he:∀(s:Shared) (H:Hp) (fp:List Addr) (C:Addr),PE (zB X N scope cl s H fp C) elt te) (hs:∀x,foldedSetIterable iter X.env x=pure x:=by intro _;rfl):
  PE X (.ListComp elt [⟨tg,iter,ifs,0⟩] scope pos) (z0l nt ix wi g tc te):=by
 intro pins s σ H Q I h
 rw [eval_ListComp]
 refine wpAny_comprehension_free (use:=none) rfl hs sc.clos sc.kind sc.names (thn (hi pins s σ H _ I h) fun v s1 h1=>thn h1 fun itv s2 h2=>?_)
 obtain ⟨it,fp,tn,J,H2,e,I2,T,st2,f2,q2⟩:=h2
 subst e
 refine j7 (RR:=fun acc C=>compPost (model X.prog X.w) X.A X.xe none (EP X pins σ Q) acc C) hc sc I2 T st2 f2 hg ht he q2 ?_
 intro D C s' H' m I' n' c1 c2 c3 c4 c5 q'
 exact ⟨m,n',fun h' hs'=>⟨.ref D,H',I'.turned (t':=s'.toks) (it:=C) (fun b o hb e=>(hs'.2 b hb).trans e) c2 c1 (.inr c3) c4 c5,rfl,q'⟩⟩
theorem qQ {elt iter tg:Expr} {ifs:List Expr} {N:List Str} {nt:Nat} {ix:List Nat} {y:Str} {i:Nat} {py spos:Pos} {scope:Scope} {cl:List (Str × Addr)} {pos:Pos} {wi:TI} {g:TG} {tc:TT} {te:TE} (hc:X.calm=true) (hN:X.N.Nodup) (hy:X.N[i]?=some y) (hl:Loc X.env.scope y) (sc:qc X N nt ix scope cl) (hi:PI X tg iter wi)
  (hg:∀(s:Shared) (H:Hp) (fp:List Addr) (C:Addr),PG (zB X N scope cl s H fp C) tg g)
  (ht:∀(s:Shared) (H:Hp) (fp:List Addr) (C:Addr),PTs (zB X N scope cl s H fp C) ifs tc)
  (he:∀(s:Shared) (H:Hp) (fp:List Addr) (C:Addr),PE (zB X N scope cl s H fp C) elt te)
  (hsw:autoParam (swapsWith (.ListComp elt [⟨tg,iter,ifs,0⟩] scope pos) (some (.Name y py)) spos.line X.env=pure true) aR._auto_1) (hs:∀x,foldedSetIterable iter X.env x=pure x:=by intro _;rfl)
  (hf:X.fn y=true∨X.env.scope.names.lookup y=some .local:=by first | exact .inl rfl | exact .inr rfl | assumption):
  PS X (.Assign [.Name y py] (.ListComp elt [⟨tg,iter,ifs,0⟩] scope pos) spos) (JD i (z0l nt ix wi g tc te)):=by
 intro pins s σ H D I h
 rw [exec_Assign_Name_used _ _ _ _ hsw]
 refine wpAny_bind (wpAny_standAt (wpAny_bind ?_))
 show wpAny _ X.A (do let _ ←comprehension (.ListComp elt [⟨tg,iter,ifs,0⟩] scope pos) scope X.env _ (newList []) false (eval iter X.env) (some (assign (.Name y py) X.env))) _ _ s
 refine wpAny_bind (wpAny_mono (wpAny_comprehension_free (use:=some (assign (.Name y py) X.env)) (Q:=fun _ s'=>SP X pins D .next s') (E:=X.xe) rfl hs sc.clos sc.kind sc.names
  (thn (hi pins s σ H _ I h) fun v s1 h1=>thn h1 fun itv s2 h2=>?_)) (fun _ s' hq=>wpAny_pure (wpAny_pure hq)) fun _ _ e=>e)
 obtain ⟨it,fp,tn,J,H2,e,I2,T,st2,f2,q2⟩:=h2
 subst e
 refine j7 (Q:=fun v H1=>D.nx (σ.set i (some v)) H1) (RR:=fun acc C=>compPost (model X.prog X.w) X.A X.xe (some (assign (.Name y py) X.env)) (fun _ s'=>SP X pins D .next s') acc C) hc sc I2 T st2 f2 hg ht he q2 ?_
 intro l C s' H' m I' n' c1 c2 c3 c4 c5 q'
 show wpAny _ X.A (assign (.Name y py) X.env (.ref l)) _ _ _
 refine wpAny_assign_Name (jS I' hN hy hl (v:=.ref l) rfl (fun s'' I'' k=>?_) hf)
 obtain ⟨a,sb,ha⟩:=k
 have hne:C≠a:=by
  rcases ha with ha | ha
  ·rw [ha];exact c1
  ·exact fun z=>c4 _ _ ha z.symm
 refine ⟨m,n'.sameBut sb hne,fun h' hs'=>?_⟩
 exact ⟨_,H',I''.turned (t':=s''.toks) (it:=C) (fun b o hb e=>(hs'.2 b hb).trans e) c2 c1 (.inr c3) c4 c5,q'⟩
end
end L2
namespace L2
open PySem PySem.Spec PyProof.Rows
theorem Inv.recast {X:Cx} {pins:List (Addr × Obj)} {σ:St} {H:Hp} {s:Shared} {d:Addr} {u u':HO} (I:Inv X pins σ H s) (e:H d=some u) (nt:∀xs,u≠.tup xs) (nb:∀ps,u≠.tbl ps) (no:∀x,u≠.own x)
  (hfz:∀o v,X.H₀ d≠some (.frz o v)) (ok:zv X.prog X.w (upd H d u') s.heap d u'):Inv X pins σ (upd H d u') s:=by
 have nn:∀b,H b=none→upd H d u' b=none:=fun b h=>by
  rw [zf (fun z=>by rw [z,e] at h;cases h)];exact h
 refine { I with base:=⟨I.base.keep,I.base.slot,fun b o q n hx=>nn b (I.base.free b o q n hx),I.base.there,fun b xs q=>?_,fun b o v q=>?_,fun b ps q=>?_⟩,free:=nn _ I.free,freeC:=fun x c q=>nn _ (I.freeC x c q),pin:=fun p hp=>?_,hok:=fun b v q=>?_ }
 ·have:=I.base.tups b xs q
  rw [zf (fun z=>by rw [z,e] at this;exact nt xs (kt this))];exact this
 ·have:=I.base.frzs b o v q
  rw [zf (fun z=>hfz o v (by rw [←z];exact q))];exact this
 ·obtain ⟨m,h⟩:=I.base.tbls b ps q
  exact ⟨m,by rw [zf (fun z=>by rw [z,e] at h;exact nb _ (kt h))];exact h⟩
 ·obtain ⟨a,b,c⟩:=I.pin p hp
  exact ⟨a,nn _ b,c⟩
 ·by_cases hb:b=d
  ·subst hb;rw [z4] at q;cases q;exact ok
  ·rw [zf hb] at q
   refine (I.hok b v q).stay (fun _ _ _ z=>z) (fun c z=>?_) fun c xs z=>?_
   ·rw [zf (fun y=>by rw [y,e] at z;exact no _ (kt z))];exact z
   ·rw [zf (fun y=>by rw [y,e] at z;exact nt _ (kt z))];exact z
theorem Inv.nofrz {X:Cx} {pins:List (Addr × Obj)} {σ:St} {H:Hp} {s:Shared} {d:Addr} {u:HO} (I:Inv X pins σ H s) (e:H d=some u) (nf:∀o v,u≠.frz o v):∀o v,X.H₀ d≠some (.frz o v):=fun o v q=>by
 have:=I.base.frzs d o v q
 rw [e] at this
 exact nf o v (kt this)
section
variable {X:Cx}
theorem JA {bs:List Bool} {us:List Value} (r:Vals (bs.map V.bl) us):us=bs.map Value.bool:=by
 induction bs generalizing us with
 | nil=>cases r;rfl
 | cons b bs ih=>
  cases r with
  | cons x y=>cases x;rw [ih y];rfl
theorem qw (hc:X.calm=true):qK X (.builtin "all") (fun xs H Q=>∃(p:Addr) (bs:List Bool),xs=[.ref p]∧SqL X.K H p (bs.map V.bl)∧Q (.bl (bs.all id)) H):=by
 intro pins s σ H xs us Q I r h
 obtain ⟨p,bs,rfl,hS,q⟩:=h
 obtain ⟨u,rfl,ru⟩:=Zt r
 cases ru
 obtain ⟨its,rv,pl,hz⟩:=I.list hS
 obtain rfl:=JA rv
 have hh:X.A.in1.handled=none:=I.ok.hd hc
 have hne:p≠s.heap.objs.size:=Nat.ne_of_lt (by obtain ⟨o,_,e,_⟩:=pl;exact Heap.lt_size e)
 refine call_all_walk (wpAny_pyIter_list pl.isList ?_)
 refine ⟨s.heap.objs.size,_,_,_,_,_,fun i=>(bs[i]?).getD true,rfl,Walks.list hh s.heap.objs.size p hne (bs.map Value.bool).toArray,⟨⟨_,Heap.get?_push_size _ rfl,rfl,rfl⟩,pl.isList.push _⟩,fun i v s' Q' E' hv hq=>?_,fun h' tk hk=>?_⟩
 ·have hv:(bs.map Value.bool).toArray[i]?=some v:=hv
  rw [List.getElem?_toArray,List.getElem?_map] at hv
  cases hb:bs[i]? with
  | none=>rw [hb] at hv;cases hv
  | some b=>
   rw [hb] at hv
   cases hv
   have hq:Q' ((bs[i]?).getD true) s':=hq
   rw [hb] at hq
   exact wpAny_truthy_bool hq
 ·have e:(List.range (bs.map Value.bool).toArray.size).all (fun i=>(bs[i]?).getD true)=bs.all id:=by
   rw [kx,kg,Bool.eq_iff_iff,List.all_eq_true,List.all_eq_true]
   constructor
   ·intro h b hb
    obtain ⟨i,hi⟩:=List.getElem?_of_mem hb
    have:=h i (List.mem_range.mpr (kd.mp hi).1)
    rw [hi] at this
    exact this
   ·intro h i hi
    rw [kD (List.mem_range.mp hi)]
    exact h _ (List.getElem_mem _)
  rw [e]
  refine ⟨.bl _,H,I.kept (t':=tk) fun b o e=>hk b o (fun z=>?_) (Heap.get?_push_of_some _ e),rfl,q⟩
  have:b=s.heap.objs.size:=by simpa using z
  rw [this] at e
  exact absurd (Heap.lt_size e) (Nat.lt_irrefl _)
end
end L2
theorem zU0 {C:List PySem.Value→Prop} (h:C []):∀us:List PySem.Value,us.length=0→C us:=by
 intro us hl
 cases us with
 | nil=>exact h
 | cons a t=>exact absurd hl (Nat.succ_ne_zero _)
theorem zU1 {C:List PySem.Value→Prop} (h:∀a,C [a]):∀us:List PySem.Value,us.length=1→C us:=by
 intro us hl
 cases us with
 | nil=>exact absurd hl.symm (Nat.succ_ne_zero _)
 | cons a t=>exact zU0 (C:=fun t=>C (a :: t)) (h a) t (Nat.succ.inj hl)
theorem zU2 {C:List PySem.Value→Prop} (h:∀a b,C [a,b]):∀us:List PySem.Value,us.length=2→C us:=by
 intro us hl
 cases us with
 | nil=>exact absurd hl.symm (Nat.succ_ne_zero _)
 | cons a t=>exact zU1 (C:=fun t=>C (a :: t)) (h a) t (Nat.succ.inj hl)
theorem zU3 {C:List PySem.Value→Prop} (h:∀a b c,C [a,b,c]):∀us:List PySem.Value,us.length=3→C us:=by
 intro us hl
 cases us with
 | nil=>exact absurd hl.symm (Nat.succ_ne_zero _)
 | cons a t=>exact zU2 (C:=fun t=>C (a :: t)) (h a) t (Nat.succ.inj hl)
theorem zU4 {C:List PySem.Value→Prop} (h:∀a b c d,C [a,b,c,d]):∀us:List PySem.Value,us.length=4→C us:=by
 intro us hl
 cases us with
 | nil=>exact absurd hl.symm (Nat.succ_ne_zero _)
 | cons a t=>exact zU3 (C:=fun t=>C (a :: t)) (h a) t (Nat.succ.inj hl)
theorem zU5 {C:List PySem.Value→Prop} (h:∀a b c d e,C [a,b,c,d,e]):∀us:List PySem.Value,us.length=5→C us:=by
 intro us hl
 cases us with
 | nil=>exact absurd hl.symm (Nat.succ_ne_zero _)
 | cons a t=>exact zU4 (C:=fun t=>C (a :: t)) (h a) t (Nat.succ.inj hl)
namespace My
open PySem PySem.Spec PyProof.Rows L2
variable {P:Program} {w:World} {K:ko} {mg:Str→Option Value} {base:Heap}
theorem fsM {N P:List Str} {sc:Scope} (a:autoParam (sc.kind=.function) aR._auto_1) (b:autoParam (sc.isCoroutine=false) aR._auto_1) (c:autoParam (sc.isGenerator=false) aR._auto_1) (d:N.Nodup:=by trivial) (e:autoParam (N.take P.length=P) aR._auto_1)
  (f:∀x∈P,sc.names.lookup x=some .local∨sc.names.lookup x=some .cell:=by trivial) (g:∀y∈sc.names,y.2≠.free:=by trivial):zl N P sc:=⟨a,b,c,d,e,f,g⟩
theorem pe_app {X:Cx} {o e:Expr} {es:List Expr} {to:TE} {t:TA} {apos cpos:Pos} (ho:PE X o to) (ha:PA X (e :: es) t) (hbase:autoParam (attributeBase o "append" X.env (eval o X.env)=eval o X.env) aR._auto_1)
  (hfew:autoParam (((backTo cpos (starEach (e :: es) X.env)).all (fun x=> !x.1)&&(backToKw cpos (keywordEach [] X.env)).all (fun x=>x.1.isSome)&&decide ((e :: es).length+([]:List Keyword).length+(if ([]:List Keyword).isEmpty then 0 else 1) < 30))=true) aR._auto_1)
  (hline:autoParam ((apos.endLine == cpos.line)=true) aR._auto_1) (hs:autoParam (starEach (e :: es) X.env=(false,eval e X.env) :: starEach es X.env) aR._auto_1) (hplain:autoParam ((backTo cpos (starEach es X.env)).any (·.1)=false) aR._auto_1):PE X (.Call (.Attribute o "append" apos) (e :: es) [] cpos) (tBM X.K "list" QM to t):=Z0 PySem.F.plainAttrs_list PySem.F.slot_list_append PySem.F.type_list_append qU ho ha hbase hfew hline hs hplain
noncomputable def top (i:Nat):Stmt:=PySem.Challenge.pw_codemill_k55_whole_fewest_swaps.main.body.getD i (.Pass ⟨0,0,0,0⟩)
def FN (P:Program) (w:World) (K:ko) (mg:Str→Option Value) (base:Heap) (k:Nat) (name:Str) (ps:List Str) (sp:Sp):Prop:=
 ∃f fd,mg name=some (.ref f)∧PySem.W.keepIn K (.ref f)=true∧Zr K fd ps []∧FnOk P w K mg base CX0 k f fd ps sp
def zy (K:ko) (mg:Str→Option Value) (name:Str) (st:Stmt):Prop:=∃f fd,Fun K name name st f fd∧mg name=some (.ref f)
section
theorem FN.of {name:Str} {st:Stmt} {N ps:List Str} {sp:Sp} {k:Nat} (D:zy K mg name st) (S:zl N ps (za st))
  (hb:∀(kV doc pm:Value) (an:Option Addr) (cdv ct:Value) (us:List Value),us.length=ps.length→bindArgs (PySem.W.fnOf name name (zO st) (zx st) (za st) .none kV doc pm an cdv ct) ⟨us,[]⟩=pure (ps.zip us))
  (len:∀vs H Q E,sp vs H Q E→vs.length=ps.length)
  (hbody:∀(f:Addr) (cdv:Value) (A:Around) (outer:List Env) (s:Shared) (H:Hp) (vs:List V) (Q:VK) (E:XK),Room k (A.deeper (envOfC name (za st) s.heap.objs.size f cdv))→sp vs H Q E→
   ∃t,PSs (cxOf CX0 P w K mg base N name (za st) f cdv A outer s H E).nox (zx st) t∧t { nx:=fun _ H'=>Q .non H',rt:=Q } (start N vs) H):FN P w K mg base (k+1) name ps sp:=by
 obtain ⟨f,fd,F,m⟩:=D
 exact ⟨f,fd,m,F.kp,F.binds hb,F.ok S len (hbody f)⟩
theorem FN.o {name:Str} {st:Stmt} {N ps:List Str} {sp:Sp} {k:Nat} (D:zy K mg name st) (S:zl N ps (za st))
  (hbody:∀(f:Addr) (cdv:Value) (A:Around) (outer:List Env) (s:Shared) (H:Hp) (vs:List V) (Q:VK) (E:XK),Room k (A.deeper (envOfC name (za st) s.heap.objs.size f cdv))→sp vs H Q E→
   ∃t,PSs (cxOf CX0 P w K mg base N name (za st) f cdv A outer s H E).nox (zx st) t∧t { nx:=fun _ H'=>Q .non H',rt:=Q } (start N vs) H)
  (hb:∀(kV doc pm:Value) (an:Option Addr) (cdv ct:Value) (us:List Value),us.length=ps.length→bindArgs (PySem.W.fnOf name name (zO st) (zx st) (za st) .none kV doc pm an cdv ct) ⟨us,[]⟩=pure (ps.zip us):=by (first | exact fun _ _ _ _ _ _=>zU1 fun _=>rfl | exact fun _ _ _ _ _ _=>zU2 fun _ _=>rfl | exact fun _ _ _ _ _ _=>zU3 fun _ _ _=>rfl | exact fun _ _ _ _ _ _=>zU4 fun _ _ _ _=>rfl | exact fun _ _ _ _ _ _=>zU5 fun _ _ _ _ _=>rfl))
  (len:∀vs H Q E,sp vs H Q E→vs.length=ps.length:=by (intro vs H Q E h;repeat (first | (obtain ⟨e,_⟩:=h;subst e;rfl) | (obtain ⟨_,h⟩:=h)))):FN P w K mg base (k+1) name ps sp:=FN.of D S hb len hbody
end
section
variable {X:Cx} {k:Nat} {name:Str} {ps:List Str} {sp:Sp} {p pos:Pos} {e:Expr} {es:List Expr} {t:TA}
theorem zN (F:FN X.prog X.w X.K X.mg X.base k name ps sp) (hr:Room k X.A) (hg:Gl X name) (ha:PA X (e :: es) t) (hdb:autoParam ((name == ("__debug__":Str))=false) aR._auto_2)
  (he:autoParam (starEach (e :: es) X.env=(false,eval e X.env) :: starEach es X.env) aR._auto_1) (hpl:autoParam ((backTo pos (starEach es X.env)).any (·.1)=false) aR._auto_1):
  PE X (.Call (.Name name p) (e :: es) [] pos) (JF sp [] E0 t):=by
 obtain ⟨f,fd,a,b,c,d⟩:=F
 exact QU d hr hg a b c .nil z2D ha hdb he hpl
end
inductive Scal:V→Prop where
 | non:Scal .non
 | bl (b:Bool):Scal (.bl b)
 | int (i:Int):Scal (.int i)
 | str (s:Str) (h:s.length≤sizeLine):Scal (.str s)
noncomputable def qJ:V→Bool
 | .int _=>true
 | _=>false
noncomputable def isB:V→Bool
 | .bl _=>true
 | _=>false
structure Glo (mg:Str→Option Value):Prop where
 isinstance:mg "isinstance"=none
 int:mg "int"=none
 bool:mg "bool"=none
 str:mg "str"=none
 tuple:mg "tuple"=none
 list:mg "list"=none
 len:mg "len"=none
 range:mg "range"=none
 enumerate:mg "enumerate"=none
 all:mg "all"=none
 dict:mg "dict"=none
 max:mg "max"=none
 min:mg "min"=none
 abs:mg "abs"=none
theorem ze:bootBuiltins "isinstance"=some (.builtin "isinstance"):=by trivial
theorem jM:bootBuiltins "int"=some (.type "int"):=by trivial
theorem Zk:bootBuiltins "bool"=some (.type "bool"):=by trivial
theorem qC:bootBuiltins "tuple"=some (.type "tuple"):=by trivial
theorem zP:bootBuiltins "list"=some (.type "list"):=by trivial
theorem zm:bootBuiltins "len"=some (.builtin "len"):=by trivial
theorem Q6 {K:ko} {H:Hp} {x:V} (h:Scal x):∃t,TyOf K H x t∧PySem.W.kitOne K t (.type "int")=some (qJ x||isB x):=by
 cases h with
 | non=>exact ⟨_,.non,rfl⟩
 | bl b=>exact ⟨_,.bl b,rfl⟩
 | int i=>exact ⟨_,.int i,rfl⟩
 | str s _=>exact ⟨_,.str s,rfl⟩
theorem Za {K:ko} {H:Hp} {x:V} (h:Scal x):∃t,TyOf K H x t∧PySem.W.kitOne K t (.type "bool")=some (isB x):=by
 cases h with
 | non=>exact ⟨_,.non,rfl⟩
 | bl b=>exact ⟨_,.bl b,rfl⟩
 | int i=>exact ⟨_,.int i,rfl⟩
 | str s _=>exact ⟨_,.str s,rfl⟩
section
variable {X:Cx}
theorem jZ (T:String) {x:Str} {pos:Pos} (hg:Gl X x) (hm:X.mg x=none) (hv:bootBuiltins x=some (.type T)) (hn:autoParam (x≠"__name__") aR._auto_2) (hd:autoParam ((x == ("__debug__":Str))=false) aR._auto_2):PE X (.Name x pos) (tC (.ty T)):=z0Y hg hm hv rfl hn hd
theorem ZY {x:Str} {v:V} {pos:Pos} (hg:Gl X x) (hm:∃u,X.mg x=some u∧RelV v u) (hd:autoParam ((x == ("__debug__":Str))=false) aR._auto_2):PE X (.Name x pos) (tC v):=by
 obtain ⟨u,h1,h2⟩:=hm
 exact zZ hg h1 h2 hd
end
section
def sp1 (f:V→Bool):Sp:=fun vs H Q _=>∃x,vs=[x]∧Scal x∧Q (.bl (f x)) H
theorem z2y {f:V→Bool} (vs:List V) (H:Hp) (Q:VK) (E:XK) (h:sp1 f vs H Q E):vs.length=1:=by
 obtain ⟨x,rfl,_⟩:=h
 rfl
theorem sc11:zl ["thing"] ["thing"] (za (top 11)):=fsM
theorem Zc (D:zy K mg "is_number" (top 11)) (G:Glo mg):FN P w K mg base 1 "is_number" ["thing"] (sp1 qJ):=by
 refine FN.o D sc11 fun f cdv A outer s H vs Q E hr h=>?_
 obtain ⟨x,rfl,hx,q⟩:=h
 refine ⟨_,zi (zo (jh (zg zG rfl G.isinstance ze (z3 (pv 0) (z3 (jZ "int" rfl G.int jM) z5)))
  (jf (z0v (zg zG rfl G.isinstance ze (z3 (pv 0) (z3 (jZ "bool" rfl G.bool Zk) z5))))))),?_⟩
 obtain ⟨t1,ty1,k1⟩:=Q6 (K:=K) (H:=H) hx
 obtain ⟨t2,ty2,k2⟩:=Za (K:=K) (H:=H) hx
 refine ⟨_,rfl,_,"int",t1,_,rfl,ty1,k1,_,rfl,?_⟩
 cases hx with
 | non=>exact q
 | bl b=>exact ⟨_,rfl,_,"bool",t2,_,rfl,ty2,k2,_,rfl,q⟩
 | int i=>exact ⟨_,rfl,_,"bool",t2,_,rfl,ty2,k2,_,rfl,q⟩
 | str s _=>exact q
end
end My
namespace L2
open PySem PySem.Spec PyProof.Rows
section
variable {X:Cx}
theorem ZJ:qK X (.type "int") (fun xs H Q=>∃b:Bool,xs=[.bl b]∧Q (.int (if b then 1 else 0)) H):=by
 intro pins s σ H xs us Q I r h
 obtain ⟨b,rfl,q⟩:=h
 obtain ⟨u,rfl,ru⟩:=Zt r
 cases ru
 exact PySem.call_int_bool ⟨.int _,H,I.tok _,⟨_,rfl⟩,q⟩
end
end L2
namespace L2
open PySem PySem.Spec PyProof.Rows
section
variable {X:Cx} {pins:List (Addr × Obj)} {σ:St} {H:Hp} {s:Shared}
end
end L2
namespace L2
open PySem PySem.Spec PyProof.Rows
section
variable {X:Cx}
end
end L2
namespace L2
open PySem PySem.Spec PyProof.Rows
theorem Zs:∀{ns:List Int} {us:List Value},us.length=ns.length→(∀(j:Nat) v,us[j]?=some v→∃t,∃i,ns[j]?=some i∧v=Value.int i t)→Vals (ns.map V.int) us
 | [],[],_,_=>.nil
 | [],_ :: _,h,_=>by cases h
 | _ :: _,[],h,_=>by cases h
 | n :: ns,u :: us,h,g=>by
  obtain ⟨t,i,e1,e2⟩:=g 0 u rfl
  cases e1
  refine .cons ⟨t,e2⟩ (Zs (by simpa using h) fun j v e=>?_)
  obtain ⟨t,i,e1,e2⟩:=g (j+1) v (by simpa using e)
  exact ⟨t,i,by simpa using e1,e2⟩
section
variable {X:Cx}
theorem qH:qK X (.builtin "sorted") (fun xs H Q=>∃(l:Addr) (ns:List Int),xs=[.ref l]∧SqL X.K H l (ns.map V.int)∧ns.length < 64∧∀(d:Addr) (ns':List Int),H d=none→ns'.Perm ns→ns'.Pairwise (· ≤·)→Q (.ref d) (upd H d (.lst (ns'.map V.int)))):=by
 intro pins s σ H xs us Q I r h
 obtain ⟨l,ns,rfl,hl,hz,q⟩:=h
 obtain ⟨u,rfl,ru⟩:=Zt r
 obtain rfl:u=Value.ref l:=ru
 obtain ⟨its,rv,pl,_⟩:=I.list hl
 have hlen:=rv.length
 rw [kg] at hlen
 refine sorted_ints pl.isList (Qm rv) (by lia) fun out ns' a1 a2 a3=>?_
 obtain ⟨e,he⟩:=sortedAll_at s.heap its out
 have hll:(ns'.map V.int).length≤sizeLine:=by rw [kg,a2.length_eq,sizeLine_eq];lia
 refine ⟨.ref (s.heap.objs.size+1),_,I.laid (t':=s.toks) (fun b o=>sortedAll_old) (Nat.le_succ _) (show zv X.prog X.w _ _ _ (.lst (ns'.map V.int)) from ⟨hll,out.toList,e,qO a1,?_⟩),rfl,q _ ns' (I.hok.fresh (Nat.le_succ _)) a2 a3⟩
 rw [he]
def rEqI (K:ko):R2:=fun x y H Q=>∃(p q:Addr) (ns ms:List Int),x=.ref p∧y=.ref q∧SqL K H p (ns.map V.int)∧SqL K H q (ms.map V.int)∧Q (.bl (decide (ns=ms))) H
theorem z0y (hu:X.A.units < cLine):OpR X (compareOp .Eq) (rEqI X.K):=by
 intro pins s σ H x y v u Q I rx ry h
 obtain ⟨l,l',ss,ss',rfl,rfl,hl,hl',q⟩:=h
 cases rx
 cases ry
 obtain ⟨its,rv,pl,_⟩:=I.list hl
 have hlen:=rv.length
 rw [kg] at hlen
 obtain ⟨its',rv',pl',_⟩:=I.list hl'
 have hlen':=rv'.length
 rw [kg] at hlen'
 by_cases hz:its.length=its'.length
 ·refine SeqAt.eq_listAt (e:=fun j=>decide (ss[j]?=ss'[j]?)) pl.isList pl'.isList (by simpa using hz) hu (fun j h1 h2=>?_) ⟨.bl _,H,I,rfl,?_⟩
  ·have h1:j < its.length:=by simpa using h1
   have h2:j < its'.length:=by simpa using h2
   have k1:j < ss.length:=by lia
   have k2:j < ss'.length:=by lia
   obtain ⟨u,e1,t,r1⟩:=rv.get (show (ss.map V.int)[j]?=some (.int ss[j]) by simp [k1])
   obtain ⟨u',e2,t',r2⟩:=rv'.get (show (ss'.map V.int)[j]?=some (.int ss'[j]) by simp [k2])
   have f1:its.toArray[j]=.int ss[j] t:=by
    have:=kD h1
    rw [e1] at this
    rw [←r1]
    simpa using (kt this).symm
   have f2:its'.toArray[j]=.int ss'[j] t':=by
    have:=kD h2
    rw [e2] at this
    rw [←r2]
    simpa using (kt this).symm
   rw [f1,f2]
   have e:decide (ss[j]?=ss'[j]?)=(ss[j] == ss'[j]):=by
    rw [kD k1,kD k2]
    by_cases e:ss[j]=ss'[j] <;> simp [e]
   rw [e]
   exact SeqAt.EqAt.int_int _ _ _ _
  ·have e:(List.range its.toArray.size).all (fun j=>decide (ss[j]?=ss'[j]?))=decide (ss=ss'):=by
    rw [Bool.eq_iff_iff,List.all_eq_true,decide_eq_true_iff]
    refine ⟨fun h=>List.ext_getElem? fun j=>?_,fun e j _=>by rw [e];simp⟩
    by_cases hj:j < its.length
    ·exact ku (h j (List.mem_range.mpr (by simpa using hj)))
    ·rw [List.getElem?_eq_none (by lia),List.getElem?_eq_none (by lia)]
   rw [e]
   exact q
 ·refine SeqAt.eq_list_lengthsAt pl.isList pl'.isList (by simpa using hz) hu ⟨.bl _,H,I,rfl,?_⟩
  have:decide (ss=ss')=false:=ke fun z=>hz (by rw [←hlen,←hlen',z])
  rw [this] at q
  exact q
def z0S:V→List V→Hp→VK→Prop:=fun x vs H Q=>∃(l:Addr) (ns:List Int) (i:Int) (j:Nat),x=.ref l∧vs=[.int i]∧H l=some (.lst (ns.map V.int))∧ns[j]?=some i∧(∀m,m < j→ns[m]?≠some i)∧ns.length≤1000∧Q (.int (j:Nat)) H
theorem J2:MtM X "list.index" z0S:=by
 intro pins s σ H x vs v us Q I rx rv h
 obtain ⟨l,ns,i,j,rfl,rfl,hH,hj,hno,hz,q⟩:=h
 cases rx
 obtain ⟨u,rfl,t,rfl⟩:=rv.one
 obtain ⟨z,its,n,r,hl,e⟩:=I.lstM hH
 rw [kg] at hl
 have at_:∀(m:Nat) (hm:m < its.toArray.size),∃k tk,ns[m]?=some k∧its.toArray[m]=.int k tk:=fun m hm=>by
  have hm:m < its.length:=by simpa using hm
  have k1:m < ns.length:=by lia
  obtain ⟨u,e1,tk,r1⟩:=r.get (show (ns.map V.int)[m]?=some (.int ns[m]) by simp [k1])
  refine ⟨ns[m],tk,by simp [k1],?_⟩
  have:=kD hm
  rw [e1] at this
  rw [←r1]
  simpa using (kt this).symm
 have hjl:j < ns.length:=(kd.mp hj).1
 refine call_meets F.slot_list_index ⟨_,e,rfl⟩ F.entry_list_index (F.args_list_index_2 _ _)
  (SeqAt.list_indexAt l its.toArray n none #[] (.int i t) (fun y=>match y with | .int k _=>k == i | _=>false) j (by rw [kx];lia) (by lia) ?_ ?_) ⟨e,?_,?_⟩
 ·obtain ⟨k,tk,e1,e2⟩:=at_ j (by rw [kx];lia)
  rw [e2]
  rw [hj] at e1
  cases e1
  simp
 ·intro m hm hlt
  obtain ⟨k,tk,e1,e2⟩:=at_ m hm
  rw [e2]
  have:=hno m hlt
  rw [e1] at this
  simpa using fun z=>this (by rw [z])
 ·intro y hy
  obtain ⟨m,hm,rfl⟩:=Array.mem_iff_getElem.mp hy
  obtain ⟨k,tk,e1,e2⟩:=at_ m hm
  rw [e2]
  exact SeqAt.EqAt.int_int _ _ _ _
 ·exact ⟨.int (j:Nat),H,I.tok _,⟨_,rfl⟩,q⟩
def JE (ta:TA):TE:=fun σ H Q=>ta σ H fun vs H1=>∃n:Nat,vs=[.int (n:Nat)]∧n≤1000∧∀l,H1 l=none→Q (.ref l) (upd H1 l (.lst (((List.range n).map fun i:Nat=>(i:Int)).map V.int)))
theorem zU {a:Expr} {ta:TA} {p p2 pos pos2:Pos} (hc:X.calm=true) (hl:Gl X "list") (hml:X.mg "list"=none) (hg:Gl X "range") (hm:X.mg "range"=none) (ha:PA X [a] ta)
  (hs:autoParam (starEach [a] X.env=[(false,eval a X.env)]) aR._auto_1) (hs2:autoParam (starEach [.Call (.Name "range" p2) [a] [] pos2] X.env=[(false,eval (.Call (.Name "range" p2) [a] [] pos2) X.env)]) aR._auto_1):
  PE X (.Call (.Name "list" p) [.Call (.Name "range" p2) [a] [] pos2] [] pos) (JE ta):=by
 intro pins s σ H Q I h
 refine wpAny_Call_Name_kw (qv I hl hml (show bootBuiltins "list"=some (.type "list") by trivial) ?_ (by decide) (by decide))
 refine PyProof.Rows.callWith_type1 ?_ hs2 rfl
 rw [hs2]
 show wpAny _ _ (spliced ((false,eval (.Call (.Name "range" p2) [a] [] pos2) X.env) :: [])) _ _ s
 refine Calls.spliced_cons ?_
 refine Call_ (qv I hg hm boot_range (PyProof.Rows.callWith_type1 (thn (ha pos2 pins s σ H _ I h) fun us s1 ⟨vs,H1,I1,r1,q1⟩=>?_) hs rfl))
 obtain ⟨n,e,hn,q⟩:=q1
 subst e
 cases r1 with
 | cons r rr=>
  cases rr
  obtain ⟨t,rfl⟩:=r
  refine call_range_1 ?_
  refine Calls.spliced_nil ?_
  have I2:Inv X pins σ H1 { s1 with heap:=s1.heap.push { cls:=.type "range",data:=.fields #[.int 0 s1.toks,.int (n:Nat) t,.int 1 (s1.toks+1)] },toks:=s1.toks+1+1 }:=I1.kept fun b o e=>Heap.get?_push_of_some _ e
  refine call_list_range (s:={ s1 with heap:=s1.heap.push { cls:=.type "range",data:=.fields #[.int 0 s1.toks,.int (n:Nat) t,.int 1 (s1.toks+1)] },toks:=s1.toks+1+1 }) (n:=n) (I.ok.hd hc) (IsRange.new ..) (small_one (by lia) (by lia) (by lia) (by lia)) ?_ (by lia) fun h' tk acc' c' hk hS hacc=>?_
  ·rw [rangeSize_one];split <;> lia
  have hlen:acc'.toList.length=((List.range n).map fun i:Nat=>(i:Int)).length:=by
   rw [Array.length_toList,hacc.1,kg,List.length_range]
  have rv:Vals (((List.range n).map fun i:Nat=>(i:Int)).map V.int) acc'.toList:=Zs hlen fun j v e=>by
   have hj:j < n:=by
    have:=(kd.mp e).1
    rw [hlen,kg,List.length_range] at this
    exact this
   obtain ⟨t,e2⟩:=hacc.2 j v (by simpa using e)
   refine ⟨t,(j:Int),by simp [hj],?_⟩
   rw [e2]
   congr 1
   lia
  have hz:(((List.range n).map fun i:Nat=>(i:Int)).map V.int).length≤sizeLine:=by
   rw [kg,kg,List.length_range,sizeLine_eq]
   lia
  refine ⟨.ref _,_,I2.laid (t':=tk) hk (kc _) (show zv X.prog X.w _ _ _ (.lst (((List.range n).map fun i:Nat=>(i:Int)).map V.int)) from ⟨hz,acc'.toList,c',rv,?_⟩),rfl,q _ (I2.hok.fresh (kc _))⟩
  rw [hS]
end
end L2
namespace L2
open PySem PySem.Spec PyProof.Rows
section
variable {X:Cx}
end
end L2
namespace L2
open PySem PySem.Spec PyProof.Rows
section
variable {X:Cx}
end
end L2
namespace L2
open PySem PySem.Spec PyProof.Rows
section
variable {X:Cx}
def rNeI (K:ko):R2:=fun x y H Q=>∃(p q:Addr) (ns:List Int),x=.ref p∧y=.ref q∧SqL K H p (ns.map V.int)∧SqL K H q (ns.map V.int)∧Q (.bl false) H
theorem jU:∀{ns:List Int} {us vs:List Value},Vals (ns.map V.int) us→Vals (ns.map V.int) vs→us.length=vs.length∧∀j (h1:j < us.length) (h2:j < vs.length),∃i t t',us[j]=.int i t∧vs[j]=.int i t'
 | [],_,_,.nil,.nil=>⟨rfl,fun j h1=>absurd h1 (by simp)⟩
 | n :: ns,_,_,.cons a r,.cons b r'=>by
  obtain ⟨e,h⟩:=jU r r'
  refine ⟨by rw [kH,kH,e],fun j h1 h2=>?_⟩
  cases j with
  | zero=>
   obtain ⟨t,rfl⟩:=a
   obtain ⟨t',rfl⟩:=b
   exact ⟨n,t,t',rfl,rfl⟩
  | succ j=>exact h j (by simpa using h1) (by simpa using h2)
theorem z0x (hu:X.A.units < cLine):OpR X (compareOp .NotEq) (rNeI X.K):=by
 intro pins s σ H x y v u Q I rx ry h
 obtain ⟨p,q,ns,rfl,rfl,h1,h2,hq⟩:=h
 cases rx
 cases ry
 obtain ⟨its,r,pl,_⟩:=I.list h1
 obtain ⟨its2,r2,pl2,_⟩:=I.list h2
 obtain ⟨el,eq⟩:=jU r r2
 refine SeqAt.RcNeAt.lists (e:=fun _=>true) pl.isList pl2.isList (by simpa using el) hu (fun j g1 g2=>?_) X.prog X.w X.xe _ ⟨.bl _,H,I,rfl,?_⟩
 ·obtain ⟨i,t,t',e1,e2⟩:=eq j (by simpa using g1) (by simpa using g2)
  have:=SeqAt.EqAt.int_int (A:=X.A.in1) (s:=s) i t i t'
  rw [kS] at this
  simpa [e1,e2] using this
 ·rw [List.all_eq_true.mpr fun _ _=>rfl]
  exact hq
end
end L2
namespace L2
open PySem PySem.Spec PyProof.Rows
theorem QG {A:Around} {s:Shared} {x:V} {u u':Value} (r:RelV x u) (r':RelV x u') (f:j4 x=true):SeqAt.EqAt A s u u' true:=by
 cases x with
 | non=>cases r;cases r';exact SeqAt.EqAt.same _
 | bl b=>cases r;cases r';exact SeqAt.EqAt.same _
 | int i=>
  obtain ⟨t,rfl⟩:=r
  obtain ⟨t',rfl⟩:=r'
  have:=SeqAt.EqAt.int_int (A:=A) (s:=s) i t i t'
  rw [kS] at this
  exact this
 | str z=>
  obtain ⟨t,rfl⟩:=r
  obtain ⟨t',rfl⟩:=r'
  have:=SeqAt.EqAt.str_str (A:=A) (s:=s) z t z t'
  rw [kS] at this
  exact this
 | _=>cases f
abbrev qb (H:Hp):List Addr→List (List V)→Prop:=Paired fun a xs=>H a=some (.tup xs)
theorem qb.get {H:Hp}:∀{as:List Addr} {ts:List (List V)} {i:Nat} {a:Addr},qb H as ts→as[i]?=some a→∃xs,ts[i]?=some xs∧H a=some (.tup xs)
 | _,_,_,_,.nil,e=>by simp at e
 | _,_,0,_,.cons h _,e=>by
  simp at e
  subst e
  exact ⟨_,rfl,h⟩
 | _,_,i+1,_,.cons _ t,e=>by
  obtain ⟨xs,h1,h2⟩:=qb.get (i:=i) t (by simpa using e)
  exact ⟨xs,by simpa using h1,h2⟩
def z2C (K:ko):R2:=fun x y H Q=>∃(p q:Addr) (as bs:List Addr) (ts:List (List V)),x=.ref p∧y=.ref q∧SqL K H p (as.map V.ref)∧SqL K H q (bs.map V.ref)∧qb H as ts∧qb H bs ts∧(∀xs∈ts,xs.all j4=true)∧Q (.bl true) H
section
variable {X:Cx}
theorem z11 (hu:X.A.units+3 < cLine):OpR X (compareOp .Eq) (z2C X.K):=by
 intro pins s σ H x y v u Q I rx ry h
 obtain ⟨p,q,as,bs,ts,rfl,rfl,sa,sb,ha,hb,hf,hq⟩:=h
 cases rx
 cases ry
 obtain ⟨its,r,pl,_⟩:=I.list sa
 obtain ⟨its2,r2,pl2,_⟩:=I.list sb
 have e1:=jP r
 have e2:=jP r2
 subst e1
 subst e2
 have la:as.length=ts.length:=Paired.length ha
 have lb:bs.length=ts.length:=Paired.length hb
 refine SeqAt.eq_listAt (e:=fun _=>true) pl.isList pl2.isList (by simp;lia) (by lia) (fun j g1 g2=>?_) ⟨.bl _,H,I,rfl,?_⟩
 ·have g1:j < as.length:=by simpa using g1
  have g2:j < bs.length:=by simpa using g2
  have main:SeqAt.EqAt X.A.in1 s (.ref as[j]) (.ref bs[j]) true:=by
   obtain ⟨xs,t1,h1⟩:=ha.get (kD g1)
   obtain ⟨xs',t2,h2⟩:=hb.get (kD g2)
   rw [t1] at t2
   cases t2
   by_cases hne:as[j]=bs[j]
   ·rw [hne]
    exact SeqAt.EqAt.same _
   ·obtain ⟨its,r,pl,_⟩:=I.tuple (SqT.of h1)
    obtain ⟨its2,r2,pl2,_⟩:=I.tuple (SqT.of h2)
    refine SeqAt.EqAt.of_refs hne ?_
    have l1:=r.length
    have l2:=r2.length
    have T:=SeqAt.RcAt.tuples (A:=X.A.in1) (s:=s) (e:=fun _=>true) pl pl2 (show X.A.units+1 < cLine by lia) (fun k g1 g2=>by
     have g1:k < its.length:=by simpa using g1
     have g2:k < its2.length:=by simpa using g2
     have gx:k < xs.length:=by lia
     obtain ⟨u1,q1,ru1⟩:=r.get (kD gx)
     obtain ⟨u2,q2,ru2⟩:=r2.get (kD gx)
     have f1:its.toArray[k]=u1:=by
      have:=kD g1
      rw [q1] at this
      simpa using (kt this).symm
     have f2:its2.toArray[k]=u2:=by
      have:=kD g2
      rw [q2] at this
      simpa using (kt this).symm
     rw [f1,f2]
     exact QG ru1 ru2 (List.all_eq_true.mp (hf xs (kz t1)) _ (List.getElem_mem gx)))
    rw [List.all_eq_true.mpr fun _ _=>rfl] at T
    have es:(its.toArray.size == its2.toArray.size)=true:=by simp;lia
    rw [es] at T
    exact T
  simpa using main
 ·rw [List.all_eq_true.mpr fun _ _=>rfl]
  exact hq
end
end L2
namespace My
open PySem PySem.Spec PyProof.Rows L2
variable {P:Program} {w:World} {K:ko} {mg:Str→Option Value} {base:Heap}
theorem zb {H:Hp} {p:Addr} (h:H p=none) (o:HO):Same H (upd H p o):=fun b u q=>by rw [zf (zc q h)];exact q
theorem Same.upd {H H2:Hp} {p:Addr} (s:Same H H2) (h:H p=none) (o:HO):Same H (upd H2 p o):=fun b u q=>by rw [zf (zc q h)];exact s b u q
theorem jR {α:Type} {l:List α} {i:Nat} {x:α} (h:l[i]?=some x):l.take (i+1)=l.take i++[x]:=by
 rw [List.take_add_one,h]
 rfl
theorem Zv {σ:L2.St} {H:Hp} {F G:Hp→Prop} (h:F H):tAll σ H (fun b H5=>if b=true then F H5 else G H5):=by
 show (if true=true then F H else G H)
 rw [kr rfl]
 exact h
theorem qc.plain {X:Cx} {N:List Str} {nt:Nat} {scope:Scope} (nofree:∀y∈scope.names,y.2≠.free) (nocell:∀y∈scope.names,y.2≠.cell) (kind:scope.kind=.function) (names:∀y∈scope.names,y.2=.local→scope.names.lookup y.1=some .local) (hl:N.length=nt):qc X N nt [] scope [] where
 clos:=closureFor_none nofree
 nocell:=nocell
 kind:=kind
 names:=names
 sub:=fun _ _ e=>nomatch e
 has:=fun x h=>by
  rw [Qg nofree] at h
  rcases h with h | h
  ·exact absurd h (Z8 nocell x)
  ·exact absurd h (Z8 nofree x)
 len:=by rw [hl];rfl
 free:=fun j x e=>by
  rw [List.getElem?_eq_none (by lia)] at e
  cases e
theorem zY {K:ko} {a:Addr} {xs:List V} {g:TG} {tc:TT} {te:TE} {R:Hp→Prop} {H:Hp} {l:Addr} {σ0:L2.St} (Pv:Nat→List V→L2.St→Hp→Prop) (h0:Pv 0 [] σ0 (upd H l (.lst []))) (hl:∀i ys σ H,i≤xs.length→Pv i ys σ H→SqL K H a xs)
  (hs:∀i x ys σ H,xs[i]?=some x→Pv i ys σ H→g x σ H fun σ2 H4=>tc σ2 H4 fun b H5=>if b=true then te σ2 H5 fun v H6=>H6 l=some (.lst ys)∧ys.length < sizeLine∧∃m',m' < xs.length - i∧m'=xs.length - (i+1)∧i+1≤xs.length∧Pv (i+1) (ys++[v]) σ2 (upd H6 l (.lst (ys++[v])))
   else ∃m',m' < xs.length - i∧m'=xs.length - (i+1)∧i+1≤xs.length∧Pv (i+1) ys σ2 H5) (hd:∀ys σ H,Pv xs.length ys σ H→R H):
  ∃W:Nat→Nat→List V→L2.St→Hp→Prop,(∃m,W 0 m [] σ0 (upd H l (.lst [])))∧∀i m ys σ' H2,W i m ys σ' H2→
   ((Itl K a).stop i H2∧R H2)∨((Itl K a).go i H2∧∀x H3,(Itl K a).yld i H2 x H3→g x σ' H3 fun σ2 H4=>tc σ2 H4 fun b H5=>if b=true then te σ2 H5 fun v H6=>H6 l=some (.lst ys)∧ys.length < sizeLine∧∃m',m' < m∧W (i+1) m' (ys++[v]) σ2 (upd H6 l (.lst (ys++[v])))
    else ∃m',m' < m∧W (i+1) m' ys σ2 H5):=by
 refine ⟨fun i m ys σ H=>m=xs.length - i∧i≤xs.length∧Pv i ys σ H,⟨xs.length,by simp,Nat.zero_le _,h0⟩,?_⟩
 rintro i m ys σ H ⟨rfl,hi,p⟩
 have q:=hl i ys σ H hi p
 by_cases hlt:i < xs.length
 ·refine .inr ⟨⟨xs,xs[i],q,by simp [hlt]⟩,fun x H' y=>?_⟩
  obtain ⟨e,y⟩:=y
  subst e
  exact hs i x ys σ _ (y xs q) p
 ·have e:i=xs.length:=by lia
  subst e
  exact .inl ⟨⟨xs,q,kc _⟩,hd ys σ H p⟩
theorem jE {X:Cx} {K:ko} (hK:X.K=K):IxR X (rIxL K):=by subst hK;exact zp
def z0i (H H':Hp) (t:Addr):Prop:=∀b o,H b=some o→b≠t→H' b=some o
def Scr (K:ko) (H:Hp) (a:Addr) (xs:List V):Prop:=
 (∃o,H a=some (.frz o (.lst xs)))∨∃(o:Obj) (its:Array Value) (n:Nat),K.lookup a=some o∧o.cls=.type "list"∧o.dict=none∧o.data=.seq its n∧its.size≤sizeLine∧Vals xs its.toList
theorem Scr.sq {K:ko} {H:Hp} {a:Addr} {xs:List V} (h:Scr K H a xs):SqL K H a xs:=by
 rcases h with ⟨o,h⟩ | h
 ·exact .inl (.inr ⟨o,h⟩)
 ·exact .inr h
theorem Scr.keep {K:ko} {H H':Hp} {a:Addr} {xs:List V} (h:Scr K H a xs) (k:∀o u,H a=some (.frz o u)→H' a=some (.frz o u)):Scr K H' a xs:=by
 rcases h with ⟨o,h⟩ | h
 ·exact .inl ⟨o,k _ _ h⟩
 ·exact .inr h
theorem Scr.keep1 {K:ko} {H H':Hp} {a t:Addr} {xs ys:List V} (h:Scr K H a xs) (k:z0i H H' t) (ht:H t=some (.lst ys)):Scr K H' a xs:=h.keep fun o u e=>k _ _ e (Z7 e ht nofun)
noncomputable def qd (c:Nat) (cells:List Int):List V:=.int (c:Int) :: cells.map V.int
section
def z0q (K:ko):Sp:=fun vs H Q _=>∃(a t:Addr) (ns:List Int) (c:Nat) (cells:List Int) (many:Int),vs=[.ref a,.ref t,.int many]∧Scr K H a (ns.map V.int)∧ns.length≤1000∧cells.length=ns.length∧H t=some (.lst (qd c cells))∧c≤100000∧1≤many∧many≤1000∧
 ∀(i:Int) (cells':List Int) H',0≤i→i < many→cells'.length=ns.length→H' t=some (.lst (qd (c+1) cells'))→z0i H H' t→Q (.int i) H'
theorem sc21:zl ["_law_script","_law_town_here","_law_many","_law_at","_law_left","_law_number"] ["_law_script","_law_town_here","_law_many"] (za (top 21)):=fsM
theorem z02 {cells:List Int} {i:Int} (h0:0≤i) (h1:i < (cells.length:Int)) (c:Nat):∃z,atI (qd c cells) (1+i)=some (.int z):=by
 obtain ⟨j,rfl⟩:=kP h0
 have hj:j < cells.length:=by lia
 have e:(1:Int)+(j:Int)=((j+1:Nat):Int):=by lia
 refine ⟨cells[j],?_⟩
 rw [e]
 refine zq ?_
 unfold qd
 rw [List.getElem?_cons_succ,List.getElem?_map,kD hj]
 rfl
theorem Qn {ns:List Int} {i:Int} (h0:0≤i) (h1:i < (ns.length:Int)):∃z,atI (ns.map V.int) i=some (.int z):=by
 obtain ⟨j,rfl⟩:=kP h0
 have hj:j < ns.length:=by lia
 refine ⟨ns[j],zq ?_⟩
 rw [List.getElem?_map,kD hj]
 rfl
theorem JI {c:Nat} {cells:List Int} {i:Int} (h0:0≤i) (h1:i < (cells.length:Int)) (z:Int):∃j cells',ixN (qd c cells).length (1+i)=some j∧(qd c cells).set j (.int z)=qd c cells'∧cells'.length=cells.length:=by
 obtain ⟨j,rfl⟩:=kP h0
 refine ⟨j+1,cells.set j z,?_,?_,by simp⟩
 ·unfold ixN qd
  rw [kr (by lia),kr (by simp;lia)]
  congr 1
  lia
 ·unfold qd
  rw [List.set_cons_succ,List.map_set]
theorem ix0 {c:Nat} {cells:List Int}:ixN (qd c cells).length 0=some 0:=by
 unfold ixN qd
 rw [kr (by decide),kr (by simp <;> lia)]
 rfl
theorem z1k (D:zy K mg "_law_draw" (top 21)) (G:Glo mg):FN P w K mg base 1 "_law_draw" ["_law_script","_law_town_here","_law_many"] (z0q K):=by
 refine FN.o D sc21 fun f cdv A outer s H vs Q E hr h=>?_
 obtain ⟨a,t,ns,c,cells,many,rfl,hS,hns,hcl,hT,hc,hm1,hm2,q⟩:=h
 have hu:A.units+3 < cLine:=by have:=hr.units0;exact this
 refine ⟨_,z8 (qR (zr zV (zL zp (pv 1) zd (fun _ _=>rfl)) zd) (qF (pv 1) zd zQ))
  (z8 (qj (zt (z0z (hr.units0)) (pv 0) (zH z5) (zA _))
   (zi (zo (zr qT (zr jA (zr ZZ (zr ZZ (zL zp (pv 1) zd (fun _ _=>rfl)) (zL zp (pv 1) zd (fun _ _=>rfl))) zd) zd) (pv 2)))) zE)
  (z8 (zk (i:=3) sc21.nd rfl (Or.inl rfl) (zr qT (zL zp (pv 1) zd (fun _ _=>rfl)) (zg zj rfl G.len zm (z3 (pv 0) z5))))
  (z8 (zk (i:=4) sc21.nd rfl (Or.inl rfl) (zL zp (pv 1) (zr zV zd (pv 3)) (fun _ _=>rfl)))
  (z8 (qj (PW.pt (z0t (zt z2E (zL zp (pv 0) (pv 3) (fun _ _=>rfl)) (zr z0w zd zd) (zA _)) (QO (zt z10 (pv 4) zd (zA _)))))
   (z8 (qR (zr jA (pv 4) (pv 2)) (qF (pv 1) (zr zV zd (pv 3)) zQ)) (zi (zo (zr qT (pv 4) (pv 2))))) zE)
  (z8 (zk (i:=5) sc21.nd rfl (Or.inl rfl) (zr qT (zr zV (zL zp (pv 0) (pv 3) (fun _ _=>rfl)) (zr ZZ zd (zL zp (pv 1) zd (fun _ _=>rfl)))) zd))
  (z8 (zk (i:=5) sc21.nd rfl (Or.inl rfl) (zr qT (zr z0w (pv 5) zd) zd))
  (zi (zo (zr qT (zr jA (zr qT (zr zV (zr ZZ (zr jA (pv 5) zd) zd) (pv 5)) zd) zd) (pv 2)))))))))),?_⟩
 have hmod:∀x:Int,0≤x % many∧x % many < many:=fun x=>⟨Int.emod_nonneg _ (by lia),Int.emod_lt_of_pos _ (by lia)⟩
 have cdm:CDiv 0 many:=⟨by lia,by lia⟩
 refine ⟨_,rfl,t,_,_,_,rfl,rfl,SqL.of hT,zq (j:=0) rfl,_,_,rfl,rfl,?_⟩
 refine ⟨_,rfl,t,_,_,0,rfl,rfl,hT,ix0,?_⟩
 have e1:(qd c cells).set 0 (V.int ((c:Int)+1))=qd (c+1) cells:=by
  unfold qd
  rw [List.set_cons_zero]
  rfl
 rw [e1]
 generalize hH1:upd H t (.lst (qd (c+1) cells))=H1
 have hT1:H1 t=some (.lst (qd (c+1) cells)):=by rw [←hH1];exact z4
 have k1:z0i H H1 t:=fun b o e hb=>by rw [←hH1,zf hb];exact e
 have hS1:=hS.keep1 k1 hT
 refine ⟨_,rfl,by show 0≤sizeLine;decide,fun p hp=>?_⟩
 have s2:Same H1 (upd H1 p (.lst [])):=zb hp _
 have hT2:=s2 _ _ hT1
 have hS2:Scr K (upd H1 p (.lst [])) a (ns.map V.int):=hS1.keep fun o u e=>s2 _ _ e
 have k2:z0i H (upd H1 p (.lst [])) t:=fun b o e hb=>s2 _ _ (k1 b o e hb)
 generalize hH2:upd H1 p (.lst [])=H2 at *
 have hp2:H2 p=some (.lst []):=by rw [←hH2];exact z4
 refine ⟨a,p,_,rfl,rfl,hS2.sq,SqL.of hp2,_,rfl,?_⟩
 refine ite2 (fun ce=>?_) (fun ce=>?_)
 ·refine ⟨_,rfl,t,_,_,_,rfl,rfl,SqL.of hT2,zq (j:=0) rfl,_,rfl,t,_,_,_,rfl,rfl,SqL.of hT2,zq (j:=0) rfl,_,_,rfl,rfl,.inl ⟨by lia,by lia⟩,_,_,rfl,rfl,.inr ⟨by decide,by decide⟩,_,_,rfl,rfl,⟨by decide,by decide⟩,_,rfl,_,_,rfl,rfl,by lia,?_⟩
  exact q _ cells H2 (hmod _).1 (hmod _).2 hcl hT2 k2
 ·have hne:ns≠[]:=fun z=>ce (by rw [z];rfl)
  have hpos:0 < ns.length:=List.length_pos_iff.mpr hne
  refine ⟨_,rfl,t,_,_,_,rfl,rfl,SqL.of hT2,zq (j:=0) rfl,_,rfl,a,_,rfl,.inl hS2.sq,_,_,rfl,rfl,by rw [kg];lia,?_⟩
  rw [kg]
  have a0:0≤((c+1:Nat):Int) % (ns.length:Int):=Int.emod_nonneg _ (by lia)
  have a1:((c+1:Nat):Int) % (ns.length:Int) < (ns.length:Int):=Int.emod_lt_of_pos _ (by lia)
  obtain ⟨z,hz⟩:=z02 (cells:=cells) a0 (by rw [hcl];exact a1) (c+1)
  obtain ⟨y,hy⟩:=Qn (ns:=ns) a0 a1
  refine ⟨_,rfl,_,rfl,_,_,rfl,rfl,t,_,_,_,rfl,rfl,SqL.of hT2,hz,?_⟩
  refine ⟨_,rfl,_,rfl,a,_,_,_,rfl,rfl,hS2.sq,hy,_,_,rfl,rfl,⟨by decide,by decide,by decide⟩,_,_,rfl,rfl,_,rfl,?_⟩
  have rest:tSeq (tAsg (tOp (rI (fun _ j=>0 < j) fun i j=>.int (i % j)) (tOp (rI0 fun i j=>.int (i+j)) (tOp (rIxL K) (tVar 0) (tVar 3)) (tOp (rI CMul fun i j=>.int (i * j)) (tC (.int 104729)) (tOp (rIxL K) (tVar 1) (tC (.int 0))))) (tC (.int 4294967291))) (Qo 5))
    (tSeq (tAsg (tOp (rI (fun _ j=>0 < j) fun i j=>.int (i % j)) (tOp (rI CPow fun i j=>.int (i ^ j.toNat)) (tVar 5) (tC (.int 5))) (tC (.int 4294967279))) (Qo 5))
    (tRet (tOp (rI (fun _ j=>0 < j) fun i j=>.int (i % j)) (tOp (rI CDiv fun i j=>.int (i / j)) (tOp (rI (fun _ j=>0 < j) fun i j=>.int (i % j)) (tOp (rI0 fun i j=>.int (i+j)) (tOp (rI CMul fun i j=>.int (i * j)) (tOp (rI CDiv fun i j=>.int (i / j)) (tVar 5) (tC (.int 64))) (tC (.int 69621))) (tVar 5)) (tC (.int 4294967231))) (tC (.int 8))) (tVar 2))))
    { nx:=fun _ H'=>Q .non H',rt:=Q } [some (.ref a),some (.ref t),some (.int many),some (.int (((c+1:Nat):Int) % (ns.length:Int))),some (.int z),none] H2:=by
   refine ⟨_,rfl,_,rfl,a,_,_,_,rfl,rfl,hS2.sq,hy,_,rfl,t,_,_,_,rfl,rfl,SqL.of hT2,zq (j:=0) rfl,_,_,rfl,rfl,.inl ⟨by decide,by decide⟩,_,_,rfl,rfl,_,_,rfl,rfl,(by show (0:Int) < 4294967291;decide),?_⟩
   have b0:0≤(y+104729 * ((c+1:Nat):Int)) % 4294967291:=Int.emod_nonneg _ (by decide)
   have b1:(y+104729 * ((c+1:Nat):Int)) % 4294967291 < 4294967291:=Int.emod_lt_of_pos _ (by decide)
   refine ⟨_,rfl,_,_,rfl,rfl,⟨by decide,by decide,?_⟩,_,_,rfl,rfl,(by show (0:Int) < 4294967279;decide),?_⟩
   ·show ((y+104729 * ((c+1:Nat):Int)) % 4294967291).natAbs < 2 ^ 64
    lia
   refine ⟨_,rfl,_,_,rfl,rfl,⟨by decide,by decide⟩,_,_,rfl,rfl,.inr ⟨by decide,by decide⟩,_,rfl,_,_,rfl,rfl,_,_,rfl,rfl,(by show (0:Int) < 4294967231;decide),_,_,rfl,rfl,⟨by decide,by decide⟩,_,rfl,_,_,rfl,rfl,by lia,?_⟩
   exact q _ cells H2 (hmod _).1 (hmod _).2 hcl hT2 k2
  refine ite2 (fun c1=>?_) (fun c1=>?_)
  ·refine ⟨_,rfl,_,_,rfl,rfl,_,rfl,?_⟩
   refine ite2 (fun c2=>?_) (fun c2=>rest)
   obtain ⟨j,cells',hj,hset,hl'⟩:=JI (c:=c+1) (cells:=cells) a0 (by rw [hcl];exact a1) (z / many)
   refine ⟨_,rfl,_,rfl,_,_,rfl,rfl,⟨by lia,by lia⟩,?_⟩
   refine ⟨_,rfl,_,rfl,_,_,rfl,rfl,t,_,_,j,rfl,rfl,hT2,hj,?_⟩
   rw [hset]
   refine ⟨_,rfl,_,rfl,_,_,rfl,rfl,by lia,?_⟩
   exact q _ cells' _ (hmod _).1 (hmod _).2 (hl'.trans hcl) z4 fun b o e hb=>by rw [zf hb];exact k2 b o e hb
  ·exact iteF rest
end
set_option maxHeartbeats 8000000
section
def z0n (K:ko):Sp:=fun vs H Q _=>∃(a:Addr) (ns:List Int),vs=[.ref a]∧Scr K H a (ns.map V.int)∧ns.length≤1000∧∀t H',Same H H'→H t=none→H' t=some (.lst (qd 0 ns))→Q (.ref t) H'
theorem sc20:zl ["_law_script"] ["_law_script"] (za (top 20)):=fsM
theorem z1e (D:zy K mg "_law_town" (top 20)) (G:Glo mg):FN P w K mg base 1 "_law_town" ["_law_script"] (z0n K):=by
 refine FN.o D sc20 fun f cdv A outer s H vs Q E hr h=>?_
 obtain ⟨a,ns,rfl,hS,hn,q⟩:=h
 refine ⟨_,zi (zo (zr Z3 (zH (z3 zd z5)) (zJ zT rfl G.list zP (z3 (pv 0) z5)))),?_⟩
 refine ⟨by show 1≤sizeLine;decide,fun p hp=>?_⟩
 have sp:=zb hp (.lst [.int 0])
 refine ⟨_,rfl,a,ns.map V.int,rfl,.inl (hS.keep fun o u e=>sp _ _ e).sq,fun l hl=>?_⟩
 have sl:=zb hl (.lst (ns.map V.int))
 have npl:p≠l:=zc (H:=upd H p (.lst [.int 0])) z4 hl
 refine ⟨p,l,[.int 0],ns.map V.int,rfl,rfl,sl _ _ z4,z4,?_,fun t ht=>?_⟩
 ·rw [kg,sizeLine_eq]
  show 1+ns.length≤_
  lia
 ·have st:=zb ht (.lst ([.int 0]++ns.map V.int))
  refine q t _ ((sp.trans sl).trans st) ?_ z4
  cases e:H t with
  | none=>rfl
  | some o=>rw [(sp.trans sl) _ _ e] at ht;cases ht
end
noncomputable def ex (a b i:Nat):Nat:=if i=a then b else if i=b then a else i
theorem ex_l (a b:Nat):ex a b a=b:=by simp [ex]
theorem ex_r (a b:Nat):ex a b b=a:=by unfold ex;split <;> simp_all
theorem ex_o {a b i:Nat} (h1:i≠a) (h2:i≠b):ex a b i=i:=by unfold ex;rw [kq h1,kq h2]
theorem z1m (a b i:Nat):ex a b i=ex b a i:=by
 unfold ex
 split
 ·split
  ·rename_i h1 h2;rw [←h1,←h2]
  ·rfl
 ·rfl
theorem Qs (a b i:Nat):ex a b (ex a b i)=i:=by
 by_cases h1:i=a
 ·subst h1;rw [ex_l,ex_r]
 ·by_cases h2:i=b
  ·subst h2;rw [ex_r,ex_l]
  ·rw [ex_o h1 h2,ex_o h1 h2]
theorem Qr {a b i n:Nat} (ha:a < n) (hb:b < n) (hi:i < n):ex a b i < n:=by
 unfold ex
 split
 ·exact hb
 ·split
  ·exact ha
  ·exact hi
structure Bij (n:Nat) (p r:Nat→Nat):Prop where
 lt:∀i,i < n→p i < n
 lt':∀i,i < n→r i < n
 rp:∀i,i < n→r (p i)=i
 pr:∀i,i < n→p (r i)=i
theorem Bij.symm {n:Nat} {p r:Nat→Nat} (h:Bij n p r):Bij n r p:=⟨h.lt',h.lt,h.pr,h.rp⟩
theorem Bij.inj {n:Nat} {p r:Nat→Nat} (h:Bij n p r) {i j:Nat} (hi:i < n) (hj:j < n) (e:p i=p j):i=j:=by
 rw [←h.rp i hi,←h.rp j hj,e]
theorem Bij.ex {n:Nat} {p r:Nat→Nat} (h:Bij n p r) {a b:Nat} (ha:a < n) (hb:b < n):Bij n (fun i=>p (ex a b i)) (fun i=>My.ex a b (r i)):=by
 refine ⟨fun i hi=>h.lt _ (Qr ha hb hi),fun i hi=>Qr ha hb (h.lt' i hi),fun i hi=>?_,fun i hi=>?_⟩
 ·show My.ex a b (r (p (My.ex a b i)))=i
  rw [h.rp _ (Qr ha hb hi),Qs]
 ·show p (My.ex a b (My.ex a b (r i)))=i
  rw [Qs,h.pr i hi]
noncomputable def ctr (n:Nat) (p:Nat→Nat) (i:Nat):Nat:=if p i=n then p n else p i
theorem qp {n:Nat} {p:Nat→Nat} {i:Nat} (h:p i=n):ctr n p i=p n:=by unfold ctr;rw [kr h]
theorem zI {n:Nat} {p:Nat→Nat} {i:Nat} (h:p i≠n):ctr n p i=p i:=by unfold ctr;rw [kq h]
noncomputable def cyc:Nat→(Nat→Nat)→Nat
 | 0,_=>0
 | n+1,p=>cyc n (ctr n p)+if p n=n then 1 else 0
theorem zW:∀(n:Nat) (p q:Nat→Nat),(∀i,i < n→p i=q i)→cyc n p=cyc n q
 | 0,_,_,_=>rfl
 | n+1,p,q,h=>by
  unfold cyc
  rw [h n (kR n),zW n (ctr n p) (ctr n q) fun i hi=>by unfold ctr;rw [h i (by lia),h n (by lia)]]
theorem qB {n:Nat} {p r:Nat→Nat} (h:Bij (n+1) p r):Bij n (ctr n p) (ctr n r):=by
 have key:∀{p r:Nat→Nat},Bij (n+1) p r→(∀i,i < n→ctr n p i < n)∧∀i,i < n→ctr n r (ctr n p i)=i:=by
  intro p r h
  have lt:∀i,i < n→ctr n p i < n:=fun i hi=>by
   by_cases e:p i=n
   ·rw [qp e]
    have h1:=h.lt n (by lia)
    have h2:p n≠n:=fun z=>by
     have:=h.inj (i:=i) (j:=n) (by lia) (by lia) (by rw [e,z])
     lia
    lia
   ·rw [zI e]
    have:=h.lt i (by lia)
    lia
  refine ⟨lt,fun i hi=>?_⟩
  by_cases e:p i=n
  ·rw [qp e,qp (h.rp n (by lia)),←e,h.rp i (by lia)]
  ·rw [zI e]
   have:=h.rp i (by lia)
   rw [zI (by rw [this];lia),this]
 exact ⟨(key h).1,(key h.symm).1,(key h).2,(key h.symm).2⟩
theorem z0b {n a b:Nat} (ha:a < n) (hb:b < n) (p:Nat→Nat) (i:Nat):ctr n (fun i=>p (ex a b i)) i=ctr n p (ex a b i):=by
 show (if p (ex a b i)=n then p (ex a b n) else p (ex a b i))=_
 rw [ex_o (show n≠a by lia) (show n≠b by lia)]
 rfl
theorem z0a {n a:Nat} {p r:Nat→Nat} (h:Bij (n+1) p r) (ha:a < n):
  (p n=n→cyc (n+1) (fun i=>p (ex a n i))+1=cyc (n+1) p)∧(p a=n→cyc (n+1) (fun i=>p (ex a n i))=cyc (n+1) p+1)∧
  (p n≠n→p a≠n→r n < n∧r n≠a∧cyc (n+1) (fun i=>p (ex a n i))=cyc n (fun i=>ctr n p (ex a (r n) i))∧cyc (n+1) p=cyc n (ctr n p)):=by
 have inj:∀{i j},i < n+1→j < n+1→p i=p j→i=j:=fun h1 h2 e=>h.inj h1 h2 e
 have hqn:p (ex a n n)=p a:=by rw [ex_r]
 have hqa:p (ex a n a)=p n:=by rw [ex_l]
 have hqo:∀i,i < n→i≠a→p (ex a n i)=p i:=fun i h1 h2=>by rw [ex_o h2 (by lia)]
 refine ⟨fun e=>?_,fun e=>?_,fun e1 e2=>?_⟩
 ·have pa:p a≠n:=fun z=>by have:=inj (i:=a) (j:=n) (by lia) (by lia) (by rw [z,e]);lia
  show cyc n (ctr n fun i=>p (ex a n i))+(if p (ex a n n)=n then 1 else 0)+1=cyc n (ctr n p)+if p n=n then 1 else 0
  rw [hqn,kq pa,kr e]
  congr 1
  refine zW n _ _ fun i hi=>?_
  by_cases z:i=a
  ·subst z
   rw [zI pa]
   show ctr n (fun i=>p (ex _ n i)) _=_
   rw [qp (by show p (ex i n i)=n;rw [hqa,e])]
   show p (ex i n n)=p i
   rw [hqn]
  ·have pi:p i≠n:=fun y=>by have:=inj (i:=i) (j:=n) (by lia) (by lia) (by rw [y,e]);lia
   rw [zI pi,zI (by show p (ex a n i)≠n;rw [hqo i hi z];exact pi)]
   exact hqo i hi z
 ·have pn:p n≠n:=fun z=>by have:=inj (i:=a) (j:=n) (by lia) (by lia) (by rw [z,e]);lia
  show cyc n (ctr n fun i=>p (ex a n i))+(if p (ex a n n)=n then 1 else 0)=cyc n (ctr n p)+(if p n=n then 1 else 0)+1
  rw [hqn,kr e,kq pn,Nat.add_zero]
  congr 1
  refine zW n _ _ fun i hi=>?_
  by_cases z:i=a
  ·subst z
   rw [qp e,zI (by show p (ex i n i)≠n;rw [hqa];exact pn)]
   exact hqa
  ·have pi:p i≠n:=fun y=>by have:=inj (i:=i) (j:=a) (by lia) (by lia) (by rw [y,e]);lia
   rw [zI pi,zI (by show p (ex a n i)≠n;rw [hqo i hi z];exact pi)]
   exact hqo i hi z
 ·have rn:=h.pr n (by lia)
  have rl:=h.lt' n (by lia)
  have rne:r n≠n:=fun z=>e1 (by rw [z] at rn;exact rn)
  have rna:r n≠a:=fun z=>e2 (by rw [z] at rn;exact rn)
  refine ⟨by lia,rna,?_,?_⟩
  ·show cyc n (ctr n fun i=>p (ex a n i))+(if p (ex a n n)=n then 1 else 0)=_
   rw [hqn,kq e2,Nat.add_zero]
   refine zW n _ _ fun i hi=>?_
   show ctr n (fun i=>p (ex a n i)) i=ctr n p (ex a (r n) i)
   by_cases z:i=a
   ·subst z
    rw [ex_l,qp rn,zI (by show p (ex i n i)≠n;rw [hqa];exact e1)]
    exact hqa
   ·by_cases y:i=r n
    ·subst y
     rw [ex_r,zI e2,qp (by show p (ex a n (r n))=n;rw [hqo _ hi z];exact rn)]
     exact hqn
    ·have pi:p i≠n:=fun x=>by have:=inj (i:=i) (j:=r n) (by lia) (by lia) (by rw [x,rn]);lia
     rw [ex_o z y,zI pi,zI (by show p (ex a n i)≠n;rw [hqo i hi z];exact pi)]
     exact hqo i hi z
  ·show cyc n (ctr n p)+(if p n=n then 1 else 0)=_
   rw [kq e1,Nat.add_zero]
def Pm (a b:Nat):Prop:=a=b+1∨a+1=b
theorem Ze:∀(n:Nat) (p r:Nat→Nat) (a b:Nat),Bij n p r→a < n→b < n→a≠b→
  Pm (cyc n fun i=>p (ex a b i)) (cyc n p)∧(p a=b→cyc n (fun i=>p (ex a b i))=cyc n p+1)∧(p b=a→cyc n (fun i=>p (ex a b i))=cyc n p+1)
 | 0,_,_,_,_,_,h,_,_=>absurd h (by lia)
 | n+1,p,r,a,b,h,ha,hb,hab=>by
  have last:∀c,c < n→Pm (cyc (n+1) fun i=>p (ex c n i)) (cyc (n+1) p)∧(p c=n→cyc (n+1) (fun i=>p (ex c n i))=cyc (n+1) p+1)∧(p n=c→cyc (n+1) (fun i=>p (ex c n i))=cyc (n+1) p+1):=fun c hc=>by
   obtain ⟨l1,l2,l3⟩:=z0a h hc
   by_cases e1:p n=n
   ·have pc:p c≠n:=fun z=>by have:=h.inj (i:=c) (j:=n) (by lia) (by lia) (by rw [z,e1]);lia
    exact ⟨.inr (l1 e1),fun z=>absurd z pc,fun z=>by lia⟩
   ·by_cases e2:p c=n
    ·exact ⟨.inl (l2 e2),fun _=>l2 e2,fun _=>l2 e2⟩
    ·obtain ⟨k1,k2,k3,k4⟩:=l3 e1 e2
     obtain ⟨i1,i2,i3⟩:=Ze n (ctr n p) (ctr n r) c (r n) (qB h) hc k1 (fun z=>k2 z.symm)
     rw [k3,k4]
     refine ⟨i1,fun z=>absurd z e2,fun z=>i3 ?_⟩
     rw [qp (h.pr n (by lia)),z]
  by_cases hb':b=n
  ·subst hb'
   exact last a (by lia)
  ·by_cases ha':a=n
   ·subst ha'
    obtain ⟨i1,i2,i3⟩:=last b (by lia)
    have e:(fun i=>p (ex a b i))=fun i=>p (ex b a i):=funext fun i=>by rw [z1m]
    rw [e]
    exact ⟨i1,i3,i2⟩
   ·obtain ⟨i1,i2,i3⟩:=Ze n (ctr n p) (ctr n r) a b (qB h) (by lia) (by lia) hab
    have e:ctr n (fun i=>p (ex a b i))=fun i=>ctr n p (ex a b i):=funext fun i=>z0b (by lia) (by lia) p i
    have c1:cyc (n+1) (fun i=>p (ex a b i))=cyc n (fun i=>ctr n p (ex a b i))+if p n=n then 1 else 0:=by
     show cyc n (ctr n fun i=>p (ex a b i))+(if p (ex a b n)=n then 1 else 0)=_
     rw [e,ex_o (by lia) (by lia)]
    have c2:cyc (n+1) p=cyc n (ctr n p)+if p n=n then 1 else 0:=rfl
    rw [c1,c2]
    refine ⟨?_,fun z=>?_,fun z=>?_⟩
    ·rcases i1 with i1 | i1
     ·exact .inl (by lia)
     ·exact .inr (by lia)
    ·have:=i2 (by rw [zI (by lia),z])
     lia
    ·have:=i3 (by rw [zI (by lia),z])
     lia
noncomputable def bt (c:Prop) [Decidable c]:Nat:=if c then 1 else 0
theorem bt_t {c:Prop} [Decidable c] (h:c):bt c=1:=kr h
theorem bt_f {c:Prop} [Decidable c] (h:¬c):bt c=0:=kq h
theorem Jy (c:Prop) [Decidable c]:bt c≤1:=by unfold bt;split <;> lia
noncomputable def fx:Nat→(Nat→Nat)→Nat
 | 0,_=>0
 | n+1,p=>fx n p+bt (n≠0∧p n=n)
noncomputable def cost (n:Nat) (p:Nat→Nat):Int:=(n:Int) - 2+cyc n p - 2 * fx n p
theorem jG:∀(n:Nat) (p q:Nat→Nat),(∀i,0 < i→i < n→p i=q i)→fx n p=fx n q
 | 0,_,_,_=>rfl
 | n+1,p,q,h=>by
  unfold fx
  rw [jG n p q fun i h0 hi=>h i h0 (by lia)]
  by_cases z:n=0
  ·subst z;rw [bt_f (by lia),bt_f (by lia)]
  ·rw [h n (by lia) (by lia)]
theorem z2a:∀(n:Nat) (p:Nat→Nat),fx n p≤n
 | 0,_=>kc _
 | n+1,p=>by
  unfold fx
  have:=z2a n p
  have:=Jy (n≠0∧p n=n)
  lia
theorem zX {n:Nat} {p q:Nat→Nat} (h:∀i,i < n→p i=q i):cost n p=cost n q:=by
 unfold cost
 rw [zW n p q h,jG n p q fun i _ hi=>h i hi]
theorem Qp:∀(n k:Nat) (p:Nat→Nat),0 < k→k < n→fx n (fun i=>p (ex 0 k i))+bt (p k=k)=fx n p+bt (p 0=k)
 | 0,_,_,_,h=>absurd h (by lia)
 | n+1,k,p,h0,hk=>by
  show fx n (fun i=>p (ex 0 k i))+bt (n≠0∧p (ex 0 k n)=n)+bt (p k=k)=fx n p+bt (n≠0∧p n=n)+bt (p 0=k)
  by_cases e:k=n
  ·subst e
   rw [jG k (fun i=>p (ex 0 k i)) p fun i h1 h2=>by show p (ex 0 k i)=p i;rw [ex_o (by lia) (by lia)],ex_r]
   have e1:bt (k≠0∧p 0=k)=bt (p 0=k):=by
    by_cases z:p 0=k
    ·rw [bt_t z,bt_t ⟨by lia,z⟩]
    ·rw [bt_f z,bt_f fun y=>z y.2]
   have e2:bt (k≠0∧p k=k)=bt (p k=k):=by
    by_cases z:p k=k
    ·rw [bt_t z,bt_t ⟨by lia,z⟩]
    ·rw [bt_f z,bt_f fun y=>z y.2]
   lia
  ·have:=Qp n k p h0 (by lia)
   rw [ex_o (show n≠0 by lia) (show n≠k by lia)]
   lia
section
variable {n k:Nat} {p r:Nat→Nat}
theorem Qa (h:Bij n p r) (h0:0 < k) (hk:k < n) (e:p 0=k):cost n (fun i=>p (ex 0 k i))+1=cost n p:=by
 obtain ⟨_,c,_⟩:=Ze n p r 0 k h (by lia) hk (by lia)
 have f:=Qp n k p h0 hk
 have pk:p k≠k:=fun z=>by have:=h.inj (i:=0) (j:=k) (by lia) hk (by rw [z,e]);lia
 rw [bt_f pk,bt_t e] at f
 unfold cost
 rw [c e]
 lia
theorem z0e (h:Bij n p r) (h0:0 < k) (hk:k < n) (e:p 0=0) (hw:p k≠k):cost n (fun i=>p (ex 0 k i))+1=cost n p:=by
 obtain ⟨_,_,c⟩:=Ze n (fun i=>p (ex 0 k i)) (fun i=>ex 0 k (r i)) 0 k (h.ex (by lia) hk) (by lia) hk (by lia)
 have c:=c (by show p (ex 0 k k)=0;rw [ex_r,e])
 have e2:cyc n (fun i=>p (ex 0 k (ex 0 k i)))=cyc n p:=zW n _ _ fun i _=>by rw [Qs]
 have c:cyc n (fun i=>p (ex 0 k (ex 0 k i)))=cyc n (fun i=>p (ex 0 k i))+1:=c
 have f:=Qp n k p h0 hk
 rw [bt_f hw,bt_f (by lia)] at f
 unfold cost
 lia
theorem z0d (h:Bij n p r) (h0:0 < k) (hk:k < n):cost n p≤cost n (fun i=>p (ex 0 k i))+1:=by
 by_cases e:p 0=k
 ·have:=Qa h h0 hk e
  lia
 ·obtain ⟨c,_,_⟩:=Ze n p r 0 k h (by lia) hk (by lia)
  have f:=Qp n k p h0 hk
  rw [bt_f e] at f
  unfold cost
  rcases c with c | c <;> lia
theorem Jt (h:Bij n p r) (h0:0 < k) (hk:k < n):cost n (fun i=>p (ex 0 k i))≤cost n p+1:=by
 have c:=z0d (h.ex (show 0 < n by lia) hk) h0 hk
 have e:cost n (fun i=>p (ex 0 k (ex 0 k i)))=cost n p:=zX fun i _=>by rw [Qs]
 have c:cost n (fun i=>p (ex 0 k i))≤cost n (fun i=>p (ex 0 k (ex 0 k i)))+1:=c
 lia
theorem Q8:∀(n:Nat) (p r:Nat→Nat),Bij n p r→cyc n p=cyc n r
 | 0,_,_,_=>rfl
 | n+1,p,r,h=>by
  unfold cyc
  rw [Q8 n _ _ (qB h)]
  have:p n=n↔r n=n:=⟨fun z=>by have:=h.rp n (by lia);rw [z] at this;exact this,fun z=>by have:=h.pr n (by lia);rw [z] at this;exact this⟩
  by_cases z:p n=n
  ·rw [kr z,kr (this.mp z)]
  ·rw [kq z,kq fun y=>z (this.mpr y)]
theorem Ji {m:Nat} {p r:Nat→Nat} (h:Bij m p r):∀(n:Nat),n≤m→fx n p=fx n r
 | 0,_=>rfl
 | n+1,hn=>by
  unfold fx
  rw [Ji h n (by lia)]
  have:p n=n↔r n=n:=⟨fun z=>by have:=h.rp n (by lia);rw [z] at this;exact this,fun z=>by have:=h.pr n (by lia);rw [z] at this;exact this⟩
  congr 1
  by_cases z:p n=n
  ·by_cases y:n=0
   ·rw [bt_f (by lia),bt_f (by lia)]
   ·rw [bt_t ⟨y,z⟩,bt_t ⟨y,this.mp z⟩]
  ·rw [bt_f fun y=>z y.2,bt_f fun y=>z (this.mpr y.2)]
theorem j6 (h:Bij n p r):cost n p=cost n r:=by
 unfold cost
 rw [Q8 n p r h,Ji h n (kc n)]
end
theorem z0I:∀(n:Nat) (p:Nat→Nat),(∀i,i < n→p i=i)→cyc n p=n
 | 0,_,_=>rfl
 | n+1,p,h=>by
  unfold cyc
  rw [kr (h n (by lia)),z0I n (ctr n p) fun i hi=>by rw [zI (by rw [h i (by lia)];lia),h i (by lia)]]
theorem z2b:∀(n:Nat) (p:Nat→Nat),(∀i,i < n→p i=i)→fx n p=n - 1
 | 0,_,_=>rfl
 | n+1,p,h=>by
  unfold fx
  rw [z2b n p fun i hi=>h i (by lia)]
  by_cases z:n=0
  ·subst z;rw [bt_f (by lia)]
  ·rw [bt_t ⟨z,h n (by lia)⟩];lia
theorem ZG {n:Nat} {p:Nat→Nat} (hn:1≤n) (h:∀i,i < n→p i=i):cost n p=0:=by
 unfold cost
 rw [z0I n p h,z2b n p h]
 lia
noncomputable def mu (n:Nat) (p:Nat→Nat):Nat:=2 * (n - fx n p)+bt (p 0=0)
theorem z21 {n k:Nat} {p r:Nat→Nat} (h:Bij n p r) (h0:0 < k) (hk:k < n) (e:p 0=k):mu n (fun i=>p (ex 0 k i)) < mu n p:=by
 have f:=Qp n k p h0 hk
 have pk:p k≠k:=fun z=>by have:=h.inj (i:=0) (j:=k) (by lia) hk (by rw [z,e]);lia
 rw [bt_f pk,bt_t e] at f
 have a:=z2a n (fun i=>p (ex 0 k i))
 have b:=Jy (p (ex 0 k 0)=0)
 show 2 * (n - fx n fun i=>p (ex 0 k i))+bt (p (ex 0 k 0)=0) < 2 * (n - fx n p)+bt (p 0=0)
 lia
theorem z22 {n k:Nat} {p r:Nat→Nat} (h:Bij n p r) (h0:0 < k) (hk:k < n) (e:p 0=0) (hw:p k≠k):mu n (fun i=>p (ex 0 k i)) < mu n p:=by
 have f:=Qp n k p h0 hk
 rw [bt_f hw,bt_f (by lia)] at f
 have q0:p (ex 0 k 0)≠0:=fun z=>by
  rw [ex_l] at z
  have:=h.inj (i:=0) (j:=k) (by lia) hk (by rw [z,e])
  lia
 show 2 * (n - fx n fun i=>p (ex 0 k i))+bt (p (ex 0 k 0)=0) < 2 * (n - fx n p)+bt (p 0=0)
 rw [bt_f q0,bt_t e]
 lia
noncomputable def lf (l:List Nat) (i:Nat):Nat:=l.getD i i
noncomputable def exch (l:List Nat) (k:Nat):List Nat:=(l.set 0 (l.getD k 0)).set k (l.getD 0 0)
theorem qi (l:List Nat) (k:Nat):(exch l k).length=l.length:=by simp [exch]
theorem qk {l:List Nat} {i:Nat} (h:i < l.length) (d:Nat):lf l i=l.getD i d:=by
 unfold lf
 rw [List.getD_eq_getElem?_getD,List.getD_eq_getElem?_getD,kD h]
 rfl
theorem J8 {l:List Nat} {i:Nat} (h:l.length≤i):lf l i=i:=by
 unfold lf
 rw [List.getD_eq_getElem?_getD,List.getElem?_eq_none h]
 rfl
theorem qV {l:List Nat} {k:Nat} (h0:0 < k) (hk:k < l.length) (i:Nat):lf (exch l k) i=lf l (ex 0 k i):=by
 by_cases hi:i < l.length
 ·have e0:0 < l.length:=by lia
  by_cases z:i=0
  ·subst z
   rw [ex_l]
   unfold lf exch
   simp only [List.getD_eq_getElem?_getD]
   rw [List.getElem?_set_ne (by lia),List.getElem?_set_self e0]
   rw [kD hk]
   rfl
  ·by_cases y:i=k
   ·subst y
    rw [ex_r]
    unfold lf exch
    simp only [List.getD_eq_getElem?_getD]
    rw [List.getElem?_set_self (by rw [List.length_set];exact hk),kD e0]
    rfl
   ·rw [ex_o z y]
    unfold lf exch
    simp only [List.getD_eq_getElem?_getD]
    rw [List.getElem?_set_ne (by lia),List.getElem?_set_ne (by lia)]
 ·rw [J8 (by rw [qi];lia),ex_o (by lia) (by lia),J8 (by lia)]
noncomputable def zC:List Nat→List Nat→List Nat
 | l,[]=>l
 | l,k :: ks=>zC (exch l (k - 1)) ks
noncomputable def sw:List Nat→Nat→Nat
 | [],i=>i
 | k :: ks,i=>ex 0 (k - 1) (sw ks i)
def Nums (n:Nat) (ks:List Nat):Prop:=∀k∈ks,2≤k∧k≤n
theorem Nums.tl {n k:Nat} {ks:List Nat} (h:Nums n (k :: ks)):Nums n ks:=fun x hx=>h x (kJ _ hx)
theorem Nums.hd {n k:Nat} {ks:List Nat} (h:Nums n (k :: ks)):2≤k∧k≤n:=h k (kI ..)
theorem js:∀(ks l:List Nat),(zC l ks).length=l.length
 | [],_=>rfl
 | k :: ks,l=>by show (zC (exch l (k - 1)) ks).length=_;rw [js,qi]
theorem Q3:∀(ks l:List Nat),Nums l.length ks→∀i,lf (zC l ks) i=lf l (sw ks i)
 | [],_,_,_=>rfl
 | k :: ks,l,h,i=>by
  show lf (zC (exch l (k - 1)) ks) i=lf l (ex 0 (k - 1) (sw ks i))
  obtain ⟨h1,h2⟩:=h.hd
  rw [Q3 ks _ (by rw [qi];exact h.tl),qV (by lia) (by lia)]
theorem qM (n i:Nat):lf (List.range n) i=i:=by
 by_cases h:i < n
 ·unfold lf
  rw [List.getD_eq_getElem?_getD,List.getElem?_range h]
  rfl
 ·exact J8 (by rw [List.length_range];lia)
theorem z23 {a b:List Nat} (hl:a.length=b.length) (h:∀i,i < a.length→lf a i=lf b i):a=b:=by
 refine List.ext_getElem hl fun i h1 h2=>?_
 have:=h i h1
 rw [qk h1 0,qk h2 0,List.getD_eq_getElem?_getD,List.getD_eq_getElem?_getD,kD h1,kD h2] at this
 exact this
theorem QB:∀{n:Nat} (ks:List Nat),Nums n ks→Bij n (sw ks) (sw ks.reverse)
 | n,[],_=>⟨fun _ h=>h,fun _ h=>h,fun _ _=>rfl,fun _ _=>rfl⟩
 | n,k :: ks,h=>by
  obtain ⟨h1,h2⟩:=h.hd
  have ih:=QB ks h.tl
  have app:∀(a b:List Nat) (i:Nat),sw (a++b) i=sw a (sw b i):=by
   intro a b i
   induction a with
   | nil=>rfl
   | cons x a iha=>show ex 0 (x - 1) (sw (a++b) i)=ex 0 (x - 1) (sw a (sw b i));rw [iha]
  have e:∀i,sw (k :: ks).reverse i=sw ks.reverse (ex 0 (k - 1) i):=fun i=>by
   rw [List.reverse_cons,app]
   rfl
  refine ⟨fun i hi=>Qr (by lia) (by lia) (ih.lt i hi),fun i hi=>by rw [e];exact ih.lt' _ (Qr (by lia) (by lia) hi),fun i hi=>?_,fun i hi=>?_⟩
  ·rw [e]
   show sw ks.reverse (ex 0 (k - 1) (ex 0 (k - 1) (sw ks i)))=i
   rw [Qs,ih.rp i hi]
  ·rw [e]
   show ex 0 (k - 1) (sw ks (sw ks.reverse (ex 0 (k - 1) i)))=i
   rw [ih.pr _ (Qr (by lia) (by lia) hi),Qs]
theorem QA:∀{n:Nat} (ks:List Nat),1≤n→Nums n ks→cost n (sw ks)≤(ks.length:Int)
 | n,[],hn,_=>by
  have:cost n (sw [])=0:=ZG hn fun i _=>rfl
  rw [this]
  exact Int.le_refl _
 | n,k :: ks,hn,h=>by
  obtain ⟨h1,h2⟩:=h.hd
  have ih:=QA ks hn h.tl
  have b1:=QB ks h.tl
  have b2:=QB (k :: ks) h
  rw [j6 b2]
  have e:cost n (sw (k :: ks).reverse)=cost n (fun i=>sw ks.reverse (ex 0 (k - 1) i)):=zX fun i _=>by
   rw [List.reverse_cons]
   have app:∀(a b:List Nat) (i:Nat),sw (a++b) i=sw a (sw b i):=by
    intro a b i
    induction a with
    | nil=>rfl
    | cons x a iha=>show ex 0 (x - 1) (sw (a++b) i)=ex 0 (x - 1) (sw a (sw b i));rw [iha]
   rw [app]
   rfl
  rw [e]
  have:=Jt (k:=k - 1) b1.symm (by lia) (by lia)
  rw [←j6 b1] at this
  rw [kH]
  lia
noncomputable def nxtS (lying order:List Nat):Option Nat:=
 if lying.getD 0 0=order.getD 0 0 then (match (List.range order.length).filter (fun i=>decide (lying.getD i 0≠order.getD i 0)) with
  | []=>none
  | a :: _=>some (a+1))
 else some (order.idxOf (lying.getD 0 0)+1)
inductive Way (order:List Nat):List Nat→List Nat→Prop
 | done {lying:List Nat} (h:nxtS lying order=none):Way order lying []
 | step {lying ks:List Nat} {k:Nat} (h:nxtS lying order=some k) (t:Way order (exch lying (k - 1)) ks):Way order lying (k :: ks)
theorem Jg:∀(l:List Nat) (i x:Nat),l[i]?=some x→(∀j,j < i→l[j]?≠some x)→l.idxOf x=i
 | [],_,_,h,_=>by cases h
 | y :: l,0,x,h,_=>by
  have:y=x:=by simpa using h
  subst this
  simp
 | y :: l,i+1,x,h,g=>by
  have hy:y≠x:=fun z=>g 0 (by lia) (by rw [z];rfl)
  rw [List.idxOf_cons,show (y == x)=false by simpa using hy]
  have:=Jg l i x (by simpa using h) fun j hj z=>g (j+1) (by lia) (by simpa using z)
  rw [this]
  rfl
theorem z0D {n:Nat} {order:List Nat} {r:Nat→Nat} (hl:order.length=n) (O:Bij n (lf order) r) {x:Nat} (hx:x < n):order.idxOf x=r x:=by
 have h1:=O.lt' x hx
 have h2:=O.pr x hx
 have at_:∀i,i < n→order[i]?=some (lf order i):=fun i hi=>by
  rw [qk (by lia) 0,List.getD_eq_getElem?_getD,kD (by lia)]
  rfl
 refine Jg order (r x) x (by rw [at_ _ h1,h2]) fun j hj z=>?_
 rw [at_ j (by lia)] at z
 have:j=r x:=O.inj (i:=j) (j:=r x) (by lia) h1 (by rw [kt z,h2])
 lia
theorem z1w {n:Nat} {order:List Nat} {r:Nat→Nat} (hn:1≤n) (hl:order.length=n) (O:Bij n (lf order) r):∀(m:Nat) (lying:List Nat) (r2:Nat→Nat),lying.length=n→Bij n (lf lying) r2→mu n (fun i=>r (lf lying i))≤m→
  ∃ks,Way order lying ks∧(ks.length:Int)=cost n (fun i=>r (lf lying i))∧Nums n ks∧zC lying ks=order:=by
 intro m
 induction m with
 | zero=>
  intro lying r2 h1 h2 h3
  exfalso
  have:mu n (fun i=>r (lf lying i))=2 * (n - fx n fun i=>r (lf lying i))+bt (r (lf lying 0)=0):=rfl
  have f:fx n (fun i=>r (lf lying i))≤n - 1:=by
   have key:∀(j:Nat) (p:Nat→Nat),fx j p≤j - 1:=by
    intro j
    induction j with
    | zero=>intro p;exact kc _
    | succ j ih=>
     intro p
     unfold fx
     by_cases z:j=0
     ·subst z;rw [bt_f (by lia)];exact kc _
     ·have:=ih p;have:=Jy (j≠0∧p j=j);lia
   exact key n _
  lia
 | succ m ih=>
  intro lying r2 h1 h2 h3
  have B:Bij n (fun i=>r (lf lying i)) (fun i=>r2 (lf order i)):=by
   refine ⟨fun i hi=>O.lt' _ (h2.lt i hi),fun i hi=>h2.lt' _ (O.lt i hi),fun i hi=>?_,fun i hi=>?_⟩
   ·show r2 (lf order (r (lf lying i)))=i
    rw [O.pr _ (h2.lt i hi),h2.rp i hi]
   ·show r (lf lying (r2 (lf order i)))=i
    rw [h2.pr _ (O.lt i hi),O.rp i hi]
  have right:∀i,i < n→(r (lf lying i)=i↔lying.getD i 0=order.getD i 0):=fun i hi=>by
   rw [←qk (show i < lying.length by lia) 0,←qk (show i < order.length by lia) 0]
   constructor
   ·intro e
    have:=O.pr _ (h2.lt i hi)
    rw [e] at this
    exact this.symm
   ·intro e
    rw [e,O.rp i hi]
  have go:∀k,0 < k→k < n→nxtS lying order=some (k+1)→cost n (fun i=>r (lf lying (ex 0 k i)))+1=cost n (fun i=>r (lf lying i))→mu n (fun i=>r (lf lying (ex 0 k i))) < mu n (fun i=>r (lf lying i))→
    ∃ks,Way order lying ks∧(ks.length:Int)=cost n (fun i=>r (lf lying i))∧Nums n ks∧zC lying ks=order:=fun k k0 kn hx hc hmu=>by
   have e:(fun i=>r (lf (exch lying k) i))=fun i=>r (lf lying (ex 0 k i)):=funext fun i=>by rw [qV k0 (by lia)]
   have e2:lf (exch lying k)=fun i=>lf lying (ex 0 k i):=funext fun i=>qV k0 (by lia) i
   obtain ⟨ks,w1,w2,w3,w4⟩:=ih (exch lying k) (fun i=>ex 0 k (r2 i)) (by rw [qi];exact h1) (by rw [e2];exact h2.ex (by lia) kn) (by rw [e];lia)
   rw [e] at w2
   refine ⟨(k+1) :: ks,.step hx (by rw [Nat.add_sub_cancel];exact w1),?_,?_,?_⟩
   ·rw [kH];lia
   ·intro x hx
    rcases kw.mp hx with z | z
    ·lia
    ·exact w3 x z
   ·show zC (exch lying (k+1 - 1)) ks=order
    rw [Nat.add_sub_cancel]
    exact w4
  by_cases h0:lying.getD 0 0=order.getD 0 0
  ·have p0:r (lf lying 0)=0:=(right 0 (by lia)).mpr h0
   cases hf:(List.range order.length).filter (fun i=>decide (lying.getD i 0≠order.getD i 0)) with
   | nil=>
    have hall:∀i,i < n→lying.getD i 0=order.getD i 0:=fun i hi=>by
     have:=List.filter_eq_nil_iff.mp hf i (List.mem_range.mpr (by lia))
     simpa using this
    refine ⟨[],.done ?_,?_,(fun _ h=>by cases h),?_⟩
    ·unfold nxtS
     rw [kr h0,hf]
    ·rw [ZG hn fun i hi=>(right i hi).mpr (hall i hi)];rfl
    ·show lying=order
     refine z23 (by lia) fun i hi=>?_
     rw [qk hi 0,qk (by lia) 0]
     exact hall i (by lia)
   | cons a t=>
    have ha:a∈(List.range order.length).filter (fun i=>decide (lying.getD i 0≠order.getD i 0)):=by rw [hf];exact kI ..
    rw [List.mem_filter,List.mem_range,decide_eq_true_iff] at ha
    have a0:0 < a:=by
     rcases Nat.eq_zero_or_pos a with z | z
     ·exact absurd (by rw [z];exact h0) ha.2
     ·exact z
    have aw:r (lf lying a)≠a:=fun z=>ha.2 ((right a (by lia)).mp z)
    exact go a a0 (by lia) (by unfold nxtS;rw [kr h0,hf]) (z0e B a0 (by lia) p0 aw) (z22 B a0 (by lia) p0 aw)
  ·have p0:r (lf lying 0)≠0:=fun z=>h0 ((right 0 (by lia)).mp z)
   have pl:=B.lt 0 (by lia)
   refine go (r (lf lying 0)) (by lia) pl ?_ (Qa B (by lia) pl rfl) (z21 B (by lia) pl rfl)
   unfold nxtS
   rw [kq h0,←qk (show 0 < lying.length by lia) 0,z0D hl O (h2.lt 0 (by lia))]
noncomputable def iv (l:List Nat):List Int:=l.map fun i:Nat=>(i:Int)
noncomputable def nv (l:List Nat):List V:=(iv l).map V.int
theorem Q5 (l:List Nat):(iv l).length=l.length:=by unfold iv;rw [kg]
theorem zh (l:List Nat):(nv l).length=l.length:=by unfold nv;rw [kg,Q5]
theorem qf {l:List Nat} {i:Nat} (h:i < l.length):(nv l)[i]?=some (.int ((l.getD i 0:Nat):Int)):=by
 unfold nv iv
 rw [List.getElem?_map,List.getElem?_map,kD h,List.getD_eq_getElem?_getD,kD h]
 rfl
theorem jj (l:List Nat) (i x:Nat):(nv l).set i (.int (x:Int))=nv (l.set i x):=by
 unfold nv iv
 rw [List.map_set,List.map_set]
theorem qA {n j:Nat} (h:j < n):ixN n (j:Int)=some j:=by
 unfold ixN
 rw [kr (by lia),kr (by lia)]
 simp
theorem jk (a b:List Nat):nv (a++b)=nv a++nv b:=by unfold nv iv;rw [kC,kC]
section
def z0p:Sp:=fun vs H Q _=>∃(l:Addr) (ls:List Nat) (k:Nat),vs=[.ref l,.int (k:Nat)]∧H l=some (.lst (nv ls))∧2≤k∧k≤ls.length∧ls.length≤1000∧∀d H',Same H H'→H d=none→H' d=some (.lst (nv (exch ls (k - 1))))→Q (.ref d) H'
theorem sc15:zl ["lying","number","found"] ["lying","number"] (za (top 15)):=fsM
theorem z1j (D:zy K mg "exchanged" (top 15)) (G:Glo mg):FN P w K mg base 1 "exchanged" ["lying","number"] z0p:=by
 refine FN.o D sc15 fun f cdv A outer s H vs Q E hr h=>?_
 obtain ⟨l,ls,k,rfl,hl,h2,hk,hn,q⟩:=h
 refine ⟨_,z8 (zk (i:=2) sc15.nd rfl (Or.inl rfl) (zJ zT rfl G.list zP (z3 (pv 0) z5)))
  (z8 (qR (ZW (z3 (zL zp (pv 2) (zr ji (pv 1) zd) (fun _ _=>rfl)) (z3 (zL zp (pv 2) zd (fun _ _=>rfl)) z5))) (z1S rfl (ZV (qF (pv 2) zd zQ) (ZV (qF (pv 2) (zr ji (pv 1) zd) zQ) z0W))))
  (zi (zo (pv 2)))),?_⟩
 refine ⟨_,rfl,l,_,rfl,.inl (SqL.of hl),fun p hp=>?_⟩
 have s1:=zb hp (.lst (nv ls))
 have e1:(k:Int) - 1=((k - 1:Nat):Int):=by lia
 have hk1:k - 1 < ls.length:=by lia
 refine ⟨_,rfl,_,rfl,_,_,rfl,rfl,p,_,_,_,rfl,rfl,SqL.of z4,by rw [e1];exact zq (qf hk1),_,rfl,p,_,_,_,rfl,rfl,SqL.of z4,zq (j:=0) (qf (by lia)),by show 2≤sizeLine;decide,fun t ht=>?_⟩
 have npt:p≠t:=zc (H:=upd H p (.lst (nv ls))) z4 ht
 have hp2:upd (upd H p (.lst (nv ls))) t (.tup [.int ((ls.getD (k - 1) 0:Nat):Int),.int ((ls.getD 0 0:Nat):Int)]) p=some (.lst (nv ls)):=by rw [zf npt];exact z4
 refine ⟨t,_,rfl,SqT.of z4,rfl,_,_,rfl,?_⟩
 refine ⟨_,rfl,p,_,_,0,rfl,rfl,hp2,by rw [zh];exact qA (n:=ls.length) (j:=0) (by lia),?_⟩
 rw [jj]
 refine ⟨_,_,rfl,_,rfl,_,rfl,_,_,rfl,rfl,p,_,_,k - 1,rfl,rfl,z4,by rw [zh,List.length_set,e1];exact qA hk1,?_⟩
 rw [jj]
 refine ⟨rfl,_,rfl,q p _ ?_ hp z4⟩
 intro b o e
 have nb:b≠p:=zc e hp
 have nt:b≠t:=zc (s1 _ _ e) ht
 rw [zf nb,zf nb,zf nt,zf nb]
 exact e
end
theorem zF {i:Nat} {x:V} {σ:L2.St} {H:Hp} {Q:L2.St→Hp→Prop} (h:Q (σ.set i (some x)) H):Qo i x σ H Q:=h
theorem Jv {n:Nat} {g:TG} {tc:TT} {te:TE} {R:Hp→Prop} {H:Hp} {l:Addr} {σ0:L2.St} (Pv:Nat→List V→L2.St→Hp→Prop) (h0:Pv 0 [] σ0 (upd H l (.lst [])))
  (hs:∀(i:Nat) ys σ H,i < n→Pv i ys σ H→g (.int (i:Int)) σ H fun σ2 H4=>tc σ2 H4 fun b H5=>if b=true then te σ2 H5 fun v H6=>H6 l=some (.lst ys)∧ys.length < sizeLine∧∃m',m' < n - i∧m'=n - (i+1)∧i+1≤n∧Pv (i+1) (ys++[v]) σ2 (upd H6 l (.lst (ys++[v])))
   else ∃m',m' < n - i∧m'=n - (i+1)∧i+1≤n∧Pv (i+1) ys σ2 H5) (hd:∀ys σ H,Pv n ys σ H→R H):
  ∃W:Nat→Nat→List V→L2.St→Hp→Prop,(∃m,W 0 m [] σ0 (upd H l (.lst [])))∧∀i m ys σ' H2,W i m ys σ' H2→
   ((Itr 0 n).stop i H2∧R H2)∨((Itr 0 n).go i H2∧∀x H3,(Itr 0 n).yld i H2 x H3→g x σ' H3 fun σ2 H4=>tc σ2 H4 fun b H5=>if b=true then te σ2 H5 fun v H6=>H6 l=some (.lst ys)∧ys.length < sizeLine∧∃m',m' < m∧W (i+1) m' (ys++[v]) σ2 (upd H6 l (.lst (ys++[v])))
    else ∃m',m' < m∧W (i+1) m' ys σ2 H5):=by
 refine ⟨fun i m ys σ H=>m=n - i∧i≤n∧Pv i ys σ H,⟨n,by simp,Nat.zero_le _,h0⟩,?_⟩
 rintro i m ys σ H ⟨rfl,hi,p⟩
 by_cases hlt:i < n
 ·refine .inr ⟨hlt,fun x H' y=>?_⟩
  obtain ⟨e,e2⟩:=y
  subst e
  have e2:x=.int (i:Int):=by rw [e2,Int.zero_add]
  subst e2
  exact hs i ys σ _ hlt p
 ·have e:i=n:=by lia
  subst e
  exact .inl ⟨kc _,hd ys σ H p⟩
noncomputable def Jw:Scope:=match (zx (top 16)).getD 1 (.Pass ⟨0,0,0,0⟩) with
 | .Assign _ (.ListComp _ _ s _) _=>s
 | _=>za (top 16)
noncomputable def nm59:List (Str × NameKind):=[(".0",.local),("place",.local),("lying",.cell),("order",.cell)]
noncomputable def cl59 (L:Addr):List (Str × Addr):=[("order",L+2),("lying",L+1)]
noncomputable def N59:List Str:=["place","lying","order"]
theorem sc16:zl ["lying","order","wrong"] ["lying","order"] (za (top 16)):=fsM
theorem z2q (f:Addr) (cdv:Value) (L:Addr):closureFor Jw (envOfC "next_swap" (za (top 16)) L f cdv)=pure (cl59 L):=by rfl
theorem z2A (f:Addr) (cdv:Value) (L:Addr):(relabel Jw (envOfC "next_swap" (za (top 16)) L f cdv)).names=nm59:=by rfl
theorem nd59:N59.Nodup:=by trivial
theorem cs59 {P:Program} {w:World} {K:ko} {mg:Str→Option Value} {base:Heap} {f:Addr} {cdv:Value} {A:Around} {outer:List Env} {s:Shared} {H:Hp} {E:XK}:
  qc (cxOf CX0 P w K mg base ["lying","order","wrong"] "next_swap" (za (top 16)) f cdv A outer s H E).nox N59 1 [0,1] Jw (cl59 s.heap.objs.size) where
 clos:=z2q f cdv s.heap.objs.size
 nocell:=by trivial
 kind:=rfl
 names:=by trivial
 sub:=fun x c e=>by
  have hm:=PySem.mem_of_lookup e
  simp only [cl59,kw,Prod.mk.injEq,kl,or_false] at hm
  rcases hm with ⟨rfl,rfl⟩ | ⟨rfl,rfl⟩
  ·rfl
  ·rfl
 has:=fun x h=>by
  have e:=z2A f cdv s.heap.objs.size
  have h:nm59.lookup x=some .cell∨nm59.lookup x=some .free:=by rw [←e];exact h
  have:x="lying"∨x="order":=by
   rcases h with h | h
   ·have hm:=PySem.mem_of_lookup h
    simp only [nm59,kw,Prod.mk.injEq,kl,or_false] at hm
    rcases hm with z | z | z | z
    ·cases z.2
    ·cases z.2
    ·exact .inl z.1
    ·exact .inr z.1
   ·have hm:=PySem.mem_of_lookup h
    simp only [nm59,kw,Prod.mk.injEq,kl,or_false] at hm
    rcases hm with z | z | z | z
    all_goals first | exact z.2.elim | cases z.2
  rcases this with rfl | rfl
  ·exact ⟨_,rfl⟩
  ·exact ⟨_,rfl⟩
 len:=rfl
 free:=fun j x e=>by
  match j,e with
  | 0,e=>cases e;exact ⟨0,rfl,rfl,rfl,rfl,fun c h=>h⟩
  | 1,e=>cases e;exact ⟨1,rfl,rfl,rfl,rfl,fun c h=>h⟩
  | j+2,e=>exact absurd e (by rw [List.getElem?_eq_none (by show 3≤1+(j+2);lia)];exact nofun)
theorem Jf:∀(l:List Nat) (x m:Nat),m < l.idxOf x→l[m]?≠some x
 | [],_,_,h=>by simp at h
 | y :: l,x,m,h=>by
  rw [List.idxOf_cons] at h
  by_cases e:y=x
  ·rw [show (y == x)=true by simpa using e] at h
   simp at h
  ·rw [show (y == x)=false by simpa using e] at h
   simp only [cond_false] at h
   cases m with
   | zero=>simpa using e
   | succ m=>
    have:=Jf l x m (by lia)
    simpa using this
noncomputable def qr (ls os:List Nat) (n:Nat):List Nat:=(List.range n).filter fun i=>decide (ls.getD i 0≠os.getD i 0)
theorem Qe (ls os:List Nat) (n:Nat):(qr ls os n).length≤n:=by
 have:=List.length_filter_le (fun i=>decide (ls.getD i 0≠os.getD i 0)) (List.range n)
 rw [List.length_range] at this
 exact this
theorem qN (ls os:List Nat) (n:Nat):qr ls os (n+1)=if ls.getD n 0=os.getD n 0 then qr ls os n else qr ls os n++[n]:=by
 unfold qr
 rw [List.range_succ,List.filter_append]
 by_cases h:ls.getD n 0=os.getD n 0
 ·rw [kr h,List.filter_cons,kq (by simpa using h)];exact kM _
 ·rw [kq h,List.filter_cons,kr (by simpa using h)];rfl
noncomputable def numV:Option Nat→V
 | none=>.non
 | some k=>.int (k:Nat)
section
def z1K:Sp:=fun vs H Q _=>∃(l o:Addr) (ls os:List Nat),vs=[.ref l,.ref o]∧H l=some (.lst (nv ls))∧H o=some (.lst (nv os))∧ls.length=os.length∧1≤os.length∧os.length≤1000∧ls.getD 0 0∈os∧∀H',Same H H'→Q (numV (nxtS ls os)) H'
theorem z2f (D:zy K mg "next_swap" (top 16)) (G:Glo mg):FN P w K mg base 1 "next_swap" ["lying","order"] z1K:=by
 refine FN.o D sc16 fun f cdv A outer s H vs Q E hr h=>?_
 obtain ⟨l,o,ls,os,rfl,hl,ho,hlo,h1,hn,hm,q⟩:=h
 refine ⟨_,z8 (qj (zt Qh (zL zp (pv 0) zd (fun _ _=>rfl)) (zL zp (pv 1) zd (fun _ _=>rfl)) (zA _)) (zi (zo (zr zV (Z0 F.plainAttrs_list F.slot_list_index F.type_list_index J2 (pv 1) (z3 (zL zp (pv 0) zd (fun _ _=>rfl)) z5)) zd))) zE)
  (z8 (qQ (i:=2) (N:=N59) (nt:=1) (ix:=[0,1]) (cl:=cl59 s.heap.objs.size) rfl sc16.nd rfl (Or.inl rfl) cs59 (qS rfl G.range (z3 (zg zj rfl G.len zm (z3 (pv 1) z5)) z5))
   (fun _ _ _ _=>zK (i:=0) nd59 rfl (Or.inl rfl)) (fun _ _ _ _=>jy (zt Qh (zL (jE (K:=K) rfl) (pv 1) (pv 0) (fun _ _=>rfl)) (zL (jE (K:=K) rfl) (pv 2) (pv 0) (fun _ _=>rfl)) (zA _))) (fun _ _ _ _=>pv 0))
  (zi (zo (ZX (JM (pv 2) (fun _=>rfl)) (zr zV (zL zp (pv 2) zd (fun _ _=>rfl)) zd) jg)))),?_⟩
 refine ⟨_,rfl,l,_,_,_,rfl,rfl,SqL.of hl,zq (j:=0) (qf (by lia)),_,rfl,o,_,_,_,rfl,rfl,SqL.of ho,zq (j:=0) (qf (by lia)),rfl,!decide (ls.getD 0 0=os.getD 0 0),?_,?_⟩
 ·congr 2
  rw [Bool.eq_iff_iff,decide_eq_true_iff,decide_eq_true_iff]
  constructor
  ·intro z;have:=V.int.inj z;lia
  ·intro z;rw [z]
 by_cases h0:ls.getD 0 0=os.getD 0 0
 case neg=>
  rw [ke h0]
  have hi:os.idxOf (ls.getD 0 0) < os.length:=List.idxOf_lt_length_of_mem hm
  refine iteT ⟨_,rfl,.inl ⟨rfl,_,SqL.of ho⟩,_,rfl,l,_,_,_,rfl,rfl,SqL.of hl,zq (j:=0) (qf (by lia)),o,iv os,_,os.idxOf (ls.getD 0 0),rfl,rfl,ho,?_,?_,by rw [Q5];exact hn,_,_,rfl,rfl,?_⟩
  ·unfold iv
   rw [List.getElem?_map,kD hi,List.getElem_idxOf hi]
   rfl
  ·intro m hlt z
   unfold iv at z
   rw [List.getElem?_map] at z
   have:=Jf os (ls.getD 0 0) m hlt
   cases e:os[m]? with
   | none=>rw [e] at z;cases z
   | some y=>
    rw [e] at z this
    have z:((y:Nat):Int)=((ls.getD 0 0:Nat):Int):=kt z
    exact this (by congr 1;lia)
  ·have:numV (nxtS ls os)=.int (((os.idxOf (ls.getD 0 0):Nat):Int)+1):=by
    unfold nxtS
    rw [kq h0]
    show V.int ((os.idxOf (ls.getD 0 0)+1:Nat):Int)=_
    congr 1
   rw [this] at q
   exact q H (Same.refl _)
 rw [kf h0]
 refine iteF ?_
 refine ⟨_,rfl,o,_,rfl,.inl (SqL.of ho),_,rfl,by lia,by rw [zh];lia,fun wl hwl=>Jv (n:=(nv os).length) (fun i ys σ H4=>(∃x:Option V,σ=[x,some (.ref l),some (.ref o)])∧ys=nv (qr ls os i)∧Same H H4∧H4 wl=some (.lst ys)) ⟨⟨none,rfl⟩,rfl,zb hwl _,z4⟩ ?_ ?_⟩
 ·rintro i ys σ H4 hi ⟨⟨x,rfl⟩,rfl,s4,hw4⟩
  rw [zh] at hi
  refine zF ?_
  refine ⟨_,rfl,_,rfl,l,_,_,_,rfl,rfl,SqL.of (s4 _ _ hl),zq (qf (by lia)),_,rfl,_,rfl,o,_,_,_,rfl,rfl,SqL.of (s4 _ _ ho),zq (qf (by lia)),rfl,!decide (ls.getD i 0=os.getD i 0),?_,?_⟩
  ·congr 2
   rw [Bool.eq_iff_iff,decide_eq_true_iff,decide_eq_true_iff]
   constructor
   ·intro z;have:=V.int.inj z;lia
   ·intro z;rw [z]
  by_cases hb:ls.getD i 0=os.getD i 0
  ·rw [kf hb]
   refine iteF ⟨os.length - (i+1),by rw [zh];lia,by rw [zh],by rw [zh];lia,⟨_,rfl⟩,?_,s4,hw4⟩
   rw [qN,kr hb]
  ·rw [ke hb]
   refine iteT ⟨_,rfl,hw4,?_,os.length - (i+1),by rw [zh];lia,by rw [zh],by rw [zh];lia,⟨_,rfl⟩,?_,?_,z4⟩
   ·rw [zh]
    exact Nat.lt_of_le_of_lt (Qe ls os i) (by rw [sizeLine_eq];lia)
   ·rw [qN,kq hb,jk]
    rfl
   ·exact My.Same.upd s4 hwl _
 ·rintro ys σ H4 ⟨_,rfl,s4,hw4⟩
  rw [zh] at hw4
  cases hw:qr ls os os.length with
  | nil=>
   rw [hw] at hw4
   have:nxtS ls os=none:=by
    unfold nxtS
    rw [kr h0]
    unfold qr at hw
    rw [hw]
   rw [this] at q
   exact ⟨_,rfl,false,.inl ⟨_,SqL.of hw4,rfl⟩,iteF (q H4 s4)⟩
  | cons a t=>
   rw [hw] at hw4
   have:nxtS ls os=some (a+1):=by
    unfold nxtS
    rw [kr h0]
    unfold qr at hw
    rw [hw]
   rw [this] at q
   refine ⟨_,rfl,true,.inl ⟨_,SqL.of hw4,rfl⟩,iteT ⟨_,rfl,wl,_,_,_,rfl,rfl,SqL.of hw4,zq (j:=0) rfl,_,_,rfl,rfl,q H4 s4⟩⟩
end
inductive WayC (os:List Nat):List Nat→List Nat→Prop
 | done {ls:List Nat} (h:nxtS ls os=none) (hl:ls.length=os.length) (hm:ls.getD 0 0∈os):WayC os ls []
 | step {ls ks:List Nat} {k:Nat} (h:nxtS ls os=some k) (hl:ls.length=os.length) (hm:ls.getD 0 0∈os) (h2:2≤k) (hk:k≤os.length) (t:WayC os (exch ls (k - 1)) ks):WayC os ls (k :: ks)
theorem WayC.len {os ls ks:List Nat} (h:WayC os ls ks):ls.length=os.length:=by cases h <;> assumption
theorem WayC.mem {os ls ks:List Nat} (h:WayC os ls ks):ls.getD 0 0∈os:=by cases h <;> assumption
theorem z2s {n:Nat} {os:List Nat} {r:Nat→Nat} (hn:1≤n) (hl:os.length=n) (O:Bij n (lf os) r) {ls ks:List Nat} (w:Way os ls ks):∀(r2:Nat→Nat),ls.length=n→Bij n (lf ls) r2→WayC os ls ks:=by
 have mem:∀{ls:List Nat} {r2:Nat→Nat},ls.length=n→Bij n (lf ls) r2→ls.getD 0 0∈os:=fun {ls r2} h1 h2=>by
  have hx:=h2.lt 0 (by lia)
  rw [qk (show 0 < ls.length by lia) 0] at hx
  have h3:=O.lt' _ hx
  have h4:=O.pr _ hx
  rw [qk (show r (ls.getD 0 0) < os.length by lia) 0,List.getD_eq_getElem?_getD,kD (by lia)] at h4
  have h4:os[r (ls.getD 0 0)]'(by lia)=ls.getD 0 0:=h4
  rw [←h4]
  exact List.getElem_mem _
 induction w with
 | done h=>exact fun r2 h1 h2=>.done h (by lia) (mem h1 h2)
 | @step ls ks k h t ih=>
  intro r2 h1 h2
  have hk:2≤k∧k≤n:=by
   unfold nxtS at h
   by_cases h0:ls.getD 0 0=os.getD 0 0
   ·rw [kr h0] at h
    cases hf:(List.range os.length).filter (fun i=>decide (ls.getD i 0≠os.getD i 0)) with
    | nil=>rw [hf] at h;cases h
    | cons a tl=>
     rw [hf] at h
     have ha:a∈(List.range os.length).filter (fun i=>decide (ls.getD i 0≠os.getD i 0)):=by rw [hf];exact kI ..
     rw [List.mem_filter,List.mem_range,decide_eq_true_iff] at ha
     have a0:a≠0:=fun z=>ha.2 (by rw [z];exact h0)
     have:a+1=k:=kt h
     lia
   ·rw [kq h0] at h
    have hx:=h2.lt 0 (by lia)
    rw [qk (show 0 < ls.length by lia) 0] at hx
    rw [z0D hl O hx] at h
    have:r (ls.getD 0 0)+1=k:=kt h
    have h3:=O.lt' _ hx
    have h4:r (ls.getD 0 0)≠0:=fun z=>h0 (by
     have:=O.pr _ hx
     rw [z,qk (show 0 < os.length by lia) 0] at this
     exact this.symm)
    lia
  refine .step h (by lia) (mem h1 h2) hk.1 (by lia) ?_
  refine ih (fun i=>ex 0 (k - 1) (r2 i)) (by rw [qi];exact h1) ?_
  have e2:lf (exch ls (k - 1))=fun i=>lf ls (ex 0 (k - 1) i):=funext fun i=>qV (by lia) (by lia) i
  rw [e2]
  exact h2.ex (by lia) (by lia)
theorem z0K {c:TT} {tb:TS} {D:Ends} {σ:L2.St} {H:Hp} (Pv:Nat→L2.St→Hp→Prop) (h0:∃m,Pv m σ H)
  (hs:∀m σ H,Pv m σ H→c σ H fun b H1=>if b=true then tb { D with nx:=fun σ' H'=>∃m',m' < m∧Pv m' σ' H',ct:=fun σ' H'=>∃m',m' < m∧Pv m' σ' H',bk:=D.nx } σ H1 else D.nx σ H1)
  (mono:∀σ H Q Q',(∀b H1,Q b H1→Q' b H1)→c σ H Q→c σ H Q'):z0j c tb D σ H:=by
 refine ⟨Pv,h0,?_⟩
 intro m σ H p
 refine mono σ H _ _ (fun b H1 q=>?_) (hs m σ H p)
 cases b with
 | true=>exact ⟨_,fun σ' H' z=>z,q⟩
 | false=>exact q
section
def spTo:Sp:=fun vs H Q _=>∃(o:Addr) (os ks:List Nat),vs=[.ref o]∧H o=some (.lst (nv os))∧1≤os.length∧os.length≤1000∧WayC os (List.range os.length) ks∧ks.length≤100∧∀d H',Same H H'→H d=none→H' d=some (.lst (nv ks))→Q (.ref d) H'
theorem sc17:zl ["order","lying","found","number"] ["order"] (za (top 17)):=fsM
theorem z2Q (D:zy K mg "swaps_to" (top 17)) (G:Glo mg) (FX:FN P w K mg base 1 "next_swap" ["lying","order"] z1K) (FE:FN P w K mg base 1 "exchanged" ["lying","number"] z0p):FN P w K mg base 2 "swaps_to" ["order"] spTo:=by
 refine FN.o D sc17 fun f cdv A outer s H vs Q E hr h=>?_
 obtain ⟨o,os,ks,rfl,ho,h1,hn,hw,hk,q⟩:=h
 refine ⟨_,z8 (zk (i:=1) sc17.nd rfl (Or.inl rfl) (zU rfl rfl G.list rfl G.range (z3 (zg zj rfl G.len zm (z3 (pv 0) z5)) z5)))
  (z8 (zk (i:=2) sc17.nd rfl (Or.inl rfl) (zH z5))
  (z8 (zk (i:=3) sc17.nd rfl (Or.inl rfl) (zN FX hr rfl (z3 (pv 1) (z3 (pv 0) z5))))
  (z8 (jz PassesOwn.never (zt z0Z (pv 3) jg (zA _))
   (z8 (Zx (Z0 F.plainAttrs_list F.slot_list_append F.type_list_append qU (pv 2) (z3 (pv 3) z5)))
   (z8 (zk (i:=1) sc17.nd rfl (Or.inl rfl) (zN FE hr rfl (z3 (pv 1) (z3 (pv 3) z5))))
   (zi (zk (i:=3) sc17.nd rfl (Or.inl rfl) (zN FX hr rfl (z3 (pv 1) (z3 (pv 0) z5))))))))
  (zi (zo (pv 2)))))),?_⟩
 refine ⟨_,rfl,o,_,rfl,.inl (SqL.of ho),os.length,by rw [zh],hn,fun l hl=>?_⟩
 have el:((List.range os.length).map fun i:Nat=>(i:Int)).map V.int=nv (List.range os.length):=rfl
 rw [el]
 have s1:=zb hl (.lst (nv (List.range os.length)))
 refine ⟨by show 0≤sizeLine;decide,fun fl hfl=>?_⟩
 have s2:=zb hfl (.lst [])
 have s12:=s1.trans s2
 have nlf:l≠fl:=zc (H:=upd H l (.lst (nv (List.range os.length)))) z4 hfl
 have hfl0:H fl=none:=s1.free hfl
 refine ⟨_,rfl,_,rfl,l,o,List.range os.length,os,rfl,s2 _ _ z4,s12 _ _ ho,List.length_range ..,h1,hn,hw.mem,fun H3 s3=>?_⟩
 refine z0K (fun m σ H2=>∃(l:Addr) (ls dn rest:List Nat),σ=[some (.ref o),some (.ref l),some (.ref fl),some (numV (nxtS ls os))]∧m=rest.length∧WayC os ls rest∧ks=dn++rest∧H2 l=some (.lst (nv ls))∧H2 fl=some (.lst (nv dn))∧l≠fl∧Same H H2)
  ⟨ks.length,l,List.range os.length,[],ks,rfl,rfl,hw,rfl,s3 _ _ (s2 _ _ z4),s3 _ _ z4,nlf,s12.trans s3⟩ ?_ (fun σ H Q Q' hq ⟨x,e,q1,k,e2,q2⟩=>⟨x,e,q1,k,e2,hq _ _ q2⟩)
 rintro m σ H2 ⟨l,ls,dn,rest,rfl,rfl,hw2,rfl,hl2,hf2,nlf,sH⟩
 cases hw2 with
 | done hx hle hm=>
  rw [hx]
  refine ⟨_,rfl,rfl,false,rfl,iteF ⟨_,rfl,q fl H2 sH hfl0 ?_⟩⟩
  rw [hf2,kM]
 | @step _ rest k hx hle hm h2 hk2 ht=>
  rw [hx]
  refine ⟨_,rfl,rfl,true,rfl,iteT ?_⟩
  refine ⟨_,rfl,.inl ⟨rfl,_,SqL.of hf2⟩,_,rfl,fl,_,_,rfl,rfl,hf2,?_,?_⟩
  ·rw [zh]
   rw [kh] at hk
   exact Nat.lt_of_le_of_lt (km (Nat.le_add_right _ _) hk) (by rw [sizeLine_eq];lia)
  have ea:nv dn++[numV (some k)]=nv (dn++[k]):=by rw [jk];rfl
  rw [ea]
  have hl4:upd H2 fl (.lst (nv (dn++[k]))) l=some (.lst (nv ls)):=by rw [zf nlf];exact hl2
  have sH4:Same H (upd H2 fl (.lst (nv (dn++[k])))):=My.Same.upd sH hfl0 _
  refine ⟨_,rfl,_,rfl,l,ls,k,rfl,hl4,h2,by lia,by lia,fun d H5 s5 hd hd5=>?_⟩
  have ndf:d≠fl:=(zc (H:=upd H2 fl (.lst (nv (dn++[k])))) z4 hd).symm
  have sH5:=sH4.trans s5
  refine ⟨_,rfl,_,rfl,d,o,exch ls (k - 1),os,rfl,hd5,sH5 _ _ ho,ht.len,h1,hn,ht.mem,fun H6 s6=>?_⟩
  exact ⟨rest.length,by simp,d,exch ls (k - 1),dn++[k],rest,rfl,rfl,ht,by simp,s6 _ _ hd5,s6 _ _ (s5 _ _ z4),ndf,sH5.trans s6⟩
end
structure GloS (mg:Str→Option Value):Prop where
 places:∃u,mg "MOST_PLACES"=some u∧RelV (.int 9) u
 sorted:mg "sorted"=none
 zip:mg "zip"=none
theorem jb:bootBuiltins "sorted"=some (.builtin "sorted"):=by trivial
theorem Zl:bootBuiltins "all"=some (.builtin "all"):=by trivial
theorem Zd {l:List Nat} {k:Nat} (h:k < l.length):(exch l k).Perm l:=by
 have h0:0 < l.length:=by lia
 have:=List.set_set_perm (as:=l) (i:=0) (j:=k) h0 h
 unfold exch
 rw [List.getD_eq_getElem?_getD,List.getD_eq_getElem?_getD,kD h,kD h0]
 exact this
theorem jq:∀(ks l:List Nat),Nums l.length ks→(zC l ks).Perm l
 | [],l,_=>List.Perm.refl l
 | k :: ks,l,h=>by
  obtain ⟨h1,h2⟩:=h.hd
  show (zC (exch l (k - 1)) ks).Perm l
  exact (jq ks _ (by rw [qi];exact h.tl)).trans (Zd (by lia))
theorem jT {ns:List Int} {os:List Nat} {n:Nat} (h:os.Perm (List.range n)) (hp:ns.Perm (iv os)) (hs:ns.Pairwise (· ≤·)):ns=iv (List.range n):=by
 refine List.Perm.eq_of_pairwise (le:=(· ≤·)) (fun a b _ _ h1 h2=>Int.le_antisymm h1 h2) hs ?_ (hp.trans (h.map _))
 unfold iv
 rw [List.pairwise_map]
 refine List.Pairwise.imp ?_ List.pairwise_lt_range
 intro a b h
 lia
section
def z0P:Sp:=fun vs H Q _=>∃(o:Addr) (os:List Nat),vs=[.ref o]∧H o=some (.lst (nv os))∧1≤os.length∧os.length≤9∧os.Perm (List.range os.length)∧∀H',Same H H'→Q (.bl true) H'
theorem sc14:zl ["thing"] ["thing"] (za (top 14)):=fsM
theorem ndN:(["number"]:List Str).Nodup:=by decide
theorem z2c (D:zy K mg "is_order" (top 14)) (G:Glo mg) (GS:GloS mg) (FN1:FN P w K mg base 1 "is_number" ["thing"] (sp1 qJ)):FN P w K mg base 2 "is_order" ["thing"] z0P:=by
 refine FN.o D sc14 fun f cdv A outer s H vs Q E hr h=>?_
 obtain ⟨o,os,rfl,ho,h1,hn,hp,q⟩:=h
 have hu:(A.deeper (envOfC "is_order" (za (top 14)) s.heap.objs.size f cdv)).units < cLine:=hr.units0
 refine ⟨_,z8 (qj (PW.pt (QN (qm (qE (zg zG rfl G.isinstance ze (z3 (pv 0) (z3 (jZ "list" rfl G.list zP) z5))))) (ZS (qm (ZT JU JU zd (zg zj rfl G.len zm (z3 (pv 0) z5)) (ZY rfl GS.places)))))) (zi (zo qI)) zE)
  (zi (zo (jh (zg (qw rfl) rfl G.all Zl (z3 (qu (N:=["number"]) (nt:=1) (ix:=[]) (cl:=[]) rfl (qc.plain (by trivial) (by trivial) rfl (by trivial) rfl) (qx (pv 0))
    (fun _ _ _ _=>zK (i:=0) ndN rfl (Or.inl rfl)) (fun _ _ _ _=>Zw) (fun _ _ _ _=>zN FN1 hr rfl (z3 (pv 0) z5))) z5))
   (jf (qy (z0y hu) (zg qH rfl GS.sorted jb (z3 (pv 0) z5)) (zU rfl rfl G.list rfl G.range (z3 (zg zj rfl G.len zm (z3 (pv 0) z5)) z5)) (zA _)))))),?_⟩
 refine ⟨_,rfl,_,"list",_,true,rfl,.lst ho,rfl,_,rfl,iteF ?_⟩
 refine ⟨_,rfl,o,_,rfl,.inl (SqL.of ho),_,_,rfl,rfl,true,congrArg V.bl (kf ?_),iteT ⟨_,_,rfl,rfl,true,congrArg V.bl (kf ?_),iteF ?_⟩⟩
 ·rw [zh];lia
 ·rw [zh];lia
 refine ⟨_,rfl,o,rfl,⟨_,SqL.of ho⟩,fun bl hbl=>zY (K:=K) (a:=o) (xs:=nv os) (fun i ys σ H2=>(∃a:Option V,σ=[a])∧ys=(List.replicate i true).map V.bl∧Same H H2∧H2 bl=some (.lst ys))
  ⟨⟨none,rfl⟩,rfl,zb hbl _,z4⟩ (fun i ys σ H2 _ ⟨_,_,s2,_⟩=>s2.seq (SqL.of ho)) ?_ ?_⟩
 ·rintro i x ys σ H2 hi ⟨⟨b,rfl⟩,rfl,s2,hp2⟩
  have hil:i < os.length:=by have:=(kd.mp hi).1;rw [zh] at this;exact this
  rw [qf hil] at hi
  cases hi
  refine zF ?_
  refine Zv ⟨_,rfl,_,rfl,.int _,hp2,?_,os.length - (i+1),by rw [zh];lia,by rw [zh],by rw [zh];lia,⟨_,rfl⟩,?_,?_,z4⟩
  ·rw [kg,List.length_replicate,sizeLine_eq];lia
  ·rw [List.replicate_succ',kC];rfl
  ·exact My.Same.upd s2 hbl _
 ·rintro ys σ H2 ⟨_,rfl,s2,hp2⟩
  refine ⟨bl,_,rfl,SqL.of hp2,?_⟩
  have:(List.replicate (nv os).length true).all id=true:=by simp
  rw [this]
  refine ⟨true,rfl,iteT ?_⟩
  refine ⟨_,rfl,o,iv os,rfl,SqL.of (s2 _ _ ho),by rw [Q5];lia,fun d ns' hd pm pw=>?_⟩
  have e:=jT hp pm pw
  subst e
  have s3:=zb hd (.lst ((iv (List.range os.length)).map V.int))
  have s23:=s2.trans s3
  refine ⟨_,rfl,o,_,rfl,.inl (SqL.of (s23 _ _ ho)),os.length,by rw [zh],by lia,fun l hl=>?_⟩
  have s4:=zb hl (.lst (((List.range os.length).map fun i:Nat=>(i:Int)).map V.int))
  refine ⟨d,l,iv (List.range os.length),iv (List.range os.length),rfl,rfl,SqL.of (s4 _ _ z4),SqL.of z4,?_⟩
  rw [kf rfl]
  exact q _ (s23.trans s4)
def JH:Sp:=fun vs H Q _=>∃(o:Addr) (os ks:List Nat),vs=[.ref o]∧H o=some (.lst (nv os))∧1≤os.length∧os.length≤9∧os.Perm (List.range os.length)∧WayC os (List.range os.length) ks∧ks.length≤100∧∀d H',Same H H'→H d=none→H' d=some (.lst (nv ks))→Q (.ref d) H'
theorem sc18:zl ["order"] ["order"] (za (top 18)):=fsM
theorem z2h (D:zy K mg "fewest_swaps" (top 18)) (FO:FN P w K mg base 2 "is_order" ["thing"] z0P) (FT:FN P w K mg base 2 "swaps_to" ["order"] spTo):FN P w K mg base 3 "fewest_swaps" ["order"] JH:=by
 refine FN.o D sc18 fun f cdv A outer s H vs Q E hr h=>?_
 obtain ⟨o,os,ks,rfl,ho,h1,hn,hp,hw,hk,q⟩:=h
 refine ⟨_,z8 (qj (qm (qE (zN FO hr rfl (z3 (pv 0) z5)))) (zi ZU) zE) (zi (zo (zN FT hr rfl (z3 (pv 0) z5)))),?_⟩
 refine ⟨_,rfl,o,os,rfl,ho,h1,hn,hp,fun H1 s1=>⟨_,rfl,iteF ?_⟩⟩
 exact ⟨_,rfl,o,os,ks,rfl,s1 _ _ ho,h1,by lia,hw,hk,fun d H' s' hd hd'=>q d H' (s1.trans s') (s1.free hd) hd'⟩
end
end My
set_option maxHeartbeats 4000000
namespace L2
open PySem PySem.Spec PyProof.Rows
def qD (n:Heap) (H:Hp) (x:Addr) (cls:Value) (h:Heap):Prop:=
 ∃oe vs,h.get? x=some oe∧oe.cls=cls∧oe.data=.fields vs∧1 < vs.size∧n.get? x=none∧H x=none∧
  (vs[1]?=some .none∨∃T oT ts,vs[1]?=some (.ref T)∧T≠x∧n.get? T=none∧H T=none∧h.get? T=some oT∧oT.data=.fields ts∧ts[3]?=some .none)
structure Qu (n:Heap) (H:Hp) (fs:List Addr) (h h':Heap):Prop where
 same:∀b o,h.get? b=some o→b∉fs→(n.get? b≠none∨H b≠none)→h'.get? b=some o
 slot:∀b o,h.get? b=some o→b∈fs→∃sl,h'.get? b=some { o with slots:=sl }
 there:∀b o,h.get? b=some o→∃o',h'.get? b=some o'
section
variable {M:Model} {A:Around} {E:Value→Shared→Prop} {s:Shared}
theorem Z5 {base:Heap} {env:Env} {outer:List Env} {L e:Addr} {n:Heap} {H:Hp} {oe:Obj} {vs:Array Value} {head:Value} {hadNext:Bool} {Q:Unit→Shared→Prop}
  (hfr:A.frames=some (env :: outer)) (hl:s.heap.FunFrames base (env :: outer)) (hf:env.frame=some L)
  (he:s.heap.get? e=some oe) (hd:oe.data=.fields vs) (hsz:1 < vs.size) (hen:n.get? e=none) (heH:H e=none) (hns:∀b,s.heap.get? b=none→n.get? b=none) (hH:∀a,s.heap.get? a=none→H a=none)
  (h:∀h',Qu n H (frs (env :: outer)) s.heap h'→qD n H e oe.cls h'→Q () { s with heap:=h' }):
  wpAny M A (do let a ←frameOf env;let pl ←entryPlaceOf L hadNext;let b ←EntryCells.newEntry head a .none (rawInt L) .none pl;setField (.ref e) 1 b) (fun _ s'=>wpAny M A (setFlight (.ref e) none) Q E s') E s:=by
 have hene:e∉(env :: outer).filterMap (·.frame):=fun hm=>by
  obtain ⟨_,o,ho,hnf⟩:=hl.mem hm
  rw [he] at ho;injection ho with ho;subst ho;exact hnf vs hd
 refine wpAny_bind (wpAny_frameOf_fun hfr hl hf fun h₁ hs₁=>?_)
 refine wpAny_bind (wpAny_entryPlaceOf fun pl hpl=>?_)
 unfold EntryCells.newEntry newFields
 refine wpAny_bind (wpAny_newObj_type ?_ (hpl.sizeOk5 _ _ _ _ _))
 have he₁:h₁.get? e=some oe:=(hs₁.2.1 e hene).trans he
 have he₂:=Heap.get?_push_of_some (h:=h₁) { cls:=.type "traceback",dict:=none,data:=.fields ([head,.ref L,.none,rawInt L,.none]++(if pl.isEmpty then List.replicate 6 Value.none else pl)).toArray } he₁
 refine wpAny_setField he₂ hd hsz ?_
 have hTe:h₁.objs.size≠e:=Nat.ne_of_gt (Heap.lt_size he₁)
 have hd₃:=Obj.data_mapFields hd (·.setIfInBounds 1 (Value.ref h₁.objs.size))
 have he₃:=Heap.get?_update_self (Obj.mapFields (·.setIfInBounds 1 (Value.ref h₁.objs.size))) he₂ (Obj.isFreed_of_fields hd₃)
 have hT₃:=(Heap.get?_update_other (h₁.push { cls:=.type "traceback",dict:=none,data:=.fields ([head,.ref L,.none,rawInt L,.none]++(if pl.isEmpty then List.replicate 6 Value.none else pl)).toArray })
  (Obj.mapFields (·.setIfInBounds 1 (Value.ref h₁.objs.size))) (Ne.symm hTe)).trans (Heap.get?_push_size h₁ rfl)
 unfold setFlight
 refine wpAny_bind (wpAny_field he₃ hd₃ (x:=.ref h₁.objs.size) (by simp [hsz]) ?_)
 rw [kr (show (Value.ref h₁.objs.size != Value.none)=true from by simp)]
 have hfresh:s.heap.get? h₁.objs.size=none:=Heap.get?_none_of_le (kO hs₁.1.symm)
 refine wpAny_setField hT₃ rfl (by simp only [kx,kh,kH,List.length_nil] <;> lia) (h _ ?_ ?_)
 ·have keep:∀b o,b≠e→h₁.get? b=some o→
    (((h₁.push { cls:=.type "traceback",dict:=none,data:=.fields ([head,.ref L,.none,rawInt L,.none]++(if pl.isEmpty then List.replicate 6 Value.none else pl)).toArray }).update e (Obj.mapFields (·.setIfInBounds 1 (Value.ref h₁.objs.size)))).update h₁.objs.size
     (Obj.mapFields (·.setIfInBounds 3 ((none:Option Addr).elim Value.none fun f=>rawInt f)))).get? b=some o:=fun b o hbe hb=>by
   have hbT:h₁.objs.size≠b:=Nat.ne_of_gt (Heap.lt_size hb)
   rw [Heap.get?_update_other _ _ hbT,Heap.get?_update_other _ _ (Ne.symm hbe)]
   exact Heap.get?_push_of_some _ hb
  refine ⟨fun b o hb hnf hor=>?_,fun b o hb hm=>?_,fun b o hb=>?_⟩
  ·have hbe:b≠e:=fun z=>by
    rcases hor with q | q
    ·rw [z] at q;exact q hen
    ·rw [z] at q;exact q heH
   exact keep b o hbe ((hs₁.2.1 b hnf).trans hb)
  ·have hbe:b≠e:=fun z=>hene (by rw [←z];exact hm)
   obtain ⟨sl,q⟩:=hs₁.2.2 b o hb
   exact ⟨sl,keep b _ hbe q⟩
  ·by_cases hbe:b=e
   ·subst hbe
    rw [Heap.get?_update_other _ _ hTe]
    exact ⟨_,he₃⟩
   ·obtain ⟨sl,q⟩:=hs₁.2.2 b o hb
    exact ⟨_,keep b _ hbe q⟩
 ·refine ⟨_,_,by rw [Heap.get?_update_other _ _ hTe];exact he₃,Obj.cls_mapFields _ _,hd₃,by simpa using hsz,hen,heH,.inr ⟨h₁.objs.size,_,_,by simp [hsz],hTe,hns _ hfresh,hH _ hfresh,Heap.get?_update_self _ hT₃ (Obj.isFreed_of_fields (Obj.data_mapFields rfl _)),Obj.data_mapFields rfl _,?_⟩⟩
  first | (simp;done) | (rcases hpl with rfl | ⟨_,_,_,_,_,_,_,rfl⟩ <;> simp)
theorem z20 {base:Heap} {env:Env} {outer:List Env} {L e:Addr} {n:Heap} {H:Hp} {cls:Value} {Q:Unit→Shared→Prop}
  (hfr:A.frames=some (env :: outer)) (hl:s.heap.FunFrames base (env :: outer)) (hf:env.frame=some L) (F:qD n H e cls s.heap) (hns:∀b,s.heap.get? b=none→n.get? b=none) (hH:∀a,s.heap.get? a=none→H a=none)
  (h:∀h',Qu n H (frs (env :: outer)) s.heap h'→qD n H e cls h'→Q () { s with heap:=h' }):wpAny M A (noteFrame (.ref e) env) (fun _ s'=>wpAny M A (setFlight (.ref e) none) Q E s') E s:=by
 obtain ⟨oe,vs,he,rfl,hd,hsz,hne,heH,h1 | ⟨T,oT,ts,h1,hTe,hTn,hTH,hT,hdT,h3⟩⟩:=F
 ·unfold noteFrame
  simp only [hf]
  refine wpAny_bind (wpAny_field he hd h1 ?_)
  rw [kq (by decide)]
  exact Z5 hfr hl hf he hd hsz hne heH hns hH h
 ·unfold noteFrame
  simp only [hf]
  refine wpAny_bind (wpAny_field he hd h1 ?_)
  rw [kr (show (Value.ref T != Value.none)=true from by simp)]
  refine wpAny_bind (wpAny_field hT hdT h3 ?_)
  rw [kq (show ¬((Value.none == rawInt L)=true) from by simp [rawInt])]
  refine wpAny_bind (wpAny_setField hT hdT (Array.getElem?_eq_some_iff.mp h3).1 ?_)
  have other:∀b,b≠T→(s.heap.update T (Obj.mapFields (·.setIfInBounds 3 Value.none))).get? b=s.heap.get? b:=fun b hb=>Heap.get?_update_other _ _ (Ne.symm hb)
  have noRecord:∀b o,s.heap.get? b=some o→(∀vs,o.data≠.fields vs)→b≠T:=fun b o hb hnf q=>by
   rw [q,hT] at hb;injection hb with hb;subst hb;exact hnf ts hdT
  have hTf:T∉frs (env :: outer):=fun hm=>by
   obtain ⟨_,o,ho,hnf⟩:=hl.mem hm
   rw [hT] at ho;injection ho with ho;subst ho;exact hnf ts hdT
  have gone:∀b,(s.heap.update T (Obj.mapFields (·.setIfInBounds 3 Value.none))).get? b=none→s.heap.get? b=none:=fun b hb=>by
   by_cases z:b=T
   ·subst z
    rw [Heap.get?_update_self _ hT (Obj.isFreed_of_fields (Obj.data_mapFields hdT _))] at hb
    cases hb
   ·rw [other b z] at hb
    exact hb
  refine Z5 (s:={ s with heap:=s.heap.update T (Obj.mapFields (·.setIfInBounds 3 Value.none)) }) hfr (hl.of_keeps fun b o hb hnf=>⟨o,(other b (noRecord b o hb hnf)).trans hb,rfl⟩) hf ((other e (Ne.symm hTe)).trans he) hd hsz hne heH
   (fun b hb=>hns b (gone b hb)) (fun b hb=>hH b (gone b hb)) fun h' k f=>h h' ⟨fun b o hb hnf hor=>?_,fun b o hb hm=>?_,fun b o hb=>?_⟩ f
  ·have hbT:b≠T:=fun z=>by
    rcases hor with q | q
    ·rw [z] at q;exact q hTn
    ·rw [z] at q;exact q hTH
   exact k.same b o ((other b hbT).trans hb) hnf hor
  ·have hbT:b≠T:=fun z=>hTf (by rw [←z];exact hm)
   exact k.slot b o ((other b hbT).trans hb) hm
  ·by_cases hbT:b=T
   ·subst hbT
    exact k.there b _ (Heap.get?_update_self _ hT (Obj.isFreed_of_fields (Obj.data_mapFields hdT _)))
   ·exact k.there b o ((other b hbT).trans hb)
theorem z24 {base:Heap} {env:Env} {outer:List Env} {L e:Addr} {n:Heap} {H:Hp} {cls:Value} {Q:Unit→Shared→Prop}
  (hfr:A.frames=some (env :: outer)) (hl:s.heap.FunFrames base (env :: outer)) (hf:env.frame=some L) (F:qD n H e cls s.heap) (hns:∀b,s.heap.get? b=none→n.get? b=none) (hH:∀a,s.heap.get? a=none→H a=none)
  (h:∀h',Qu n H (frs (env :: outer)) s.heap h'→qD n H e cls h'→Q () { s with heap:=h' }):wpAny M A (leaving env (.ref e)) Q E s:=by
 unfold leaving
 exact wpAny_bind (z20 hfr hl hf F hns hH h)
end
section
variable {X:Cx} {pins:List (Addr × Obj)} {σ:St} {H:Hp} {s:Shared} {P:Program} {w:World}
def CXF (P:Program) (w:World):CXT:=fun outer H s E e s'=>
 ∃x cls H',e=.ref x∧s'.os=s.os∧AllBare s'.gens∧Un (frs outer) [] H H' s.heap s'.heap∧HOk P w H' s'.heap∧qD s.heap H' x cls s'.heap∧E cls none H'
theorem HOk.keeps {n:Heap} {fs:List Addr} {h h':Heap} (x:HOk P w H h) (k:Qu n H fs h h') (hf:∀b∈fs,H b=none):HOk P w H h':=fun a o e=>
 (x a o e).stay (fun b u hb q=>k.same b u q (fun z=>by
  have hn:=hf b z
  rcases hb with rfl | hb
  ·rw [e] at hn;cases hn
  ·rw [hb] at hn;cases hn) (.inr (by
  rcases hb with rfl | hb
  ·rw [e];simp
  ·rw [hb];simp))) (fun _ q=>q) fun _ _ q=>q
theorem Un.keeps {n:Heap} {fs:List Addr} {H0:Hp} {h0 h h':Heap} (u:Un fs [] H0 H h0 h) (k:Qu n H fs h h') (hn:∀b o,h0.get? b=some o→n.get? b≠none):Un fs [] H0 H h0 h':=
 ⟨fun b o e nn hb hx=>k.same b o (u.keep b o e nn hb hx) hb (.inl (hn b o e)),
 fun b o e nn hb hx=>by
  obtain ⟨sl,q⟩:=u.slot b o e nn hb hx
  obtain ⟨sl',q'⟩:=k.slot b _ q hb
  exact ⟨sl',q'⟩,
 fun b o e nn hx=>u.free b o e nn hx,fun b o e hx=>by
  obtain ⟨o',q⟩:=u.there b o e hx
  exact k.there b o' q,u.tups,u.frzs,u.tbls⟩
theorem qD.less {n m:Heap} {x:Addr} {cls:Value} {h:Heap} (F:qD m H x cls h) (hn:∀b,m.get? b=none→n.get? b=none):qD n H x cls h:=by
 obtain ⟨oe,vs,a,b,c,d,e,f,g⟩:=F
 refine ⟨oe,vs,a,b,c,d,hn _ e,f,?_⟩
 rcases g with g | ⟨T,oT,ts,g1,g2,g3,g4⟩
 ·exact .inl g
 ·exact .inr ⟨T,oT,ts,g1,g2,hn _ g3,g4⟩
def Zq (X:Cx) (E:XK):Prop:=∀(pins:List (Addr × Obj)) (σ:St) (H:Hp) (s:Shared) (x:Addr) (cls:Value),Inv X pins σ H s→qD X.s₀.heap H x cls s.heap→E cls none H→X.xe (.ref x) s
theorem Inv.older (I:Inv X pins σ H s) (hx:X.ex=[]) (b:Addr) (h:s.heap.get? b=none):X.s₀.heap.get? b=none:=by
 cases e:X.s₀.heap.get? b with
 | none=>rfl
 | some o=>
  obtain ⟨o',q⟩:=I.base.there b o e (by rw [hx];simp)
  rw [q] at h
  cases h
theorem zv.some' {h:Heap} {a:Addr} {o:HO} (x:zv P w H h a o):∃ob,h.get? a=some ob:=by
 cases o with
 | lst xs=>obtain ⟨_,_,_,_,e⟩:=x;exact ⟨_,e⟩
 | tup xs=>obtain ⟨_,_,_,ob,e,_⟩:=x;exact ⟨_,e⟩
 | dK kvs=>obtain ⟨_,_,_,_,o,_,_,e,_⟩:=x;exact ⟨_,e⟩
 | dT kvs=>obtain ⟨_,_,_,_,o,_,_,e,_⟩:=x;exact ⟨_,e⟩
 | set S n=>obtain ⟨o,_,_,_,e,_⟩:=x;exact ⟨_,e⟩
 | ins C dx fs=>obtain ⟨_,_,_,e,_⟩:=x;exact ⟨_,e⟩
 | own y=>exact x
 | xd fs=>obtain ⟨_,⟨_,_,_,e,_⟩,_⟩:=x;exact ⟨_,e⟩
 | rng lo hi=>obtain ⟨_,_,_,e⟩:=x;exact ⟨_,e⟩
 | frz ob u=>obtain ⟨e,_⟩:=x;exact ⟨_,e⟩
 | tbl ps=>exact ⟨_,show h.get? a=some _ from x⟩
 | met f y=>exact ⟨_,show h.get? a=some _ from x⟩
 | ext φ=>obtain ⟨_,e,_⟩:=x;exact e
theorem HOk.gone {h:Heap} (x:HOk P w H h) (a:Addr) (e:h.get? a=none):H a=none:=by
 cases q:H a with
 | none=>rfl
 | some o=>
  obtain ⟨ob,z⟩:=(x a o q).some'
  rw [z] at e
  cases e
theorem Zq.pass {E E':XK} (T:Zq X E) (hx:X.ex=[]) (hi:∀cls H,E' cls none H→E cls none H):Qd (CXF X.prog X.w) X E':=by
 intro pins σ H s e s' I h
 obtain ⟨x,cls,H',rfl,os,bare,un,hok,F,hE⟩:=h
 have I':=I.call' os un hok bare (fun b z=>absurd z (by simp))
 exact T pins σ H' s' x cls I' (F.less fun b hb=>I.older hx b hb) (hi _ _ hE)
theorem je {K:ko} {mg:Str→Option Value} {base:Heap} {N:List Str} {qual:Str} {scope:Scope} {f:Addr} {cd:Value} {A:Around} {outer:List Env} {s:Shared} {H:Hp} {E:XK}:Zq (cxOf (CXF P w) P w K mg base N qual scope f cd A outer s H E) E:=by
 intro pins σ H1 s1 x cls I F hE
 have hlt:∀b o,s.heap.get? b=some o→b < s.heap.objs.size:=fun b o e=>Heap.lt_size e
 refine z24 (base:=base) (n:=s.heap) I.ok.frames I.stack rfl F (fun b hb=>I.older rfl b hb) (fun a ha=>I.hok.gone a ha) fun h' k F'=>?_
 have u:Un (frs outer) [] H H1 s.heap s1.heap:=I.base
 have mem:∀b,b∈frs (envOfC qual scope s.heap.objs.size f cd :: outer)→b=s.heap.objs.size∨b∈frs outer:=fun b hb=>by
  unfold frs at hb
  rw [List.filterMap_cons] at hb
  exact kw.mp hb
 have memR:∀b,b∈frs outer→b∈frs (envOfC qual scope s.heap.objs.size f cd :: outer):=fun b hb=>by
  unfold frs
  rw [List.filterMap_cons]
  exact kJ _ hb
 have notIn:∀b o,s.heap.get? b=some o→b∉frs outer→b∉frs (envOfC qual scope s.heap.objs.size f cd :: outer):=fun b o e hb hm=>by
  rcases mem b hm with z | z
  ·have:=hlt b o e
   rw [z] at this
   exact absurd this (Nat.lt_irrefl _)
  ·exact hb z
 refine ⟨x,cls,H1,rfl,I.os,I.bare,⟨fun b o e nn hb hx=>?_,fun b o e nn hb hx=>?_,u.free,fun b o e hx=>?_,u.tups,u.frzs,u.tbls⟩,HOk.keeps I.hok k I.stkFree,F',hE⟩
 ·exact k.same b o (u.keep b o e nn hb hx) (notIn b o e hb) (.inl (by rw [e];simp))
 ·obtain ⟨sl,q⟩:=u.slot b o e nn hb hx
  obtain ⟨sl',q'⟩:=k.slot b _ q (memR b hb)
  exact ⟨sl',q'⟩
 ·obtain ⟨o',q⟩:=u.there b o e hx
  exact k.there b o' q
end
end L2
namespace L2
open PySem PySem.Spec PyProof.Rows
noncomputable def rtM:List Value:=[.type "RuntimeError",.type "Exception",.type "BaseException",.type "object"]
theorem ZC {K:ko} {h:Heap} {C:Addr} {bmB:List Value} {newId:String} (X:K.In h) (q:PySem.W.excIn K C bmB newId=true):
  ∃bm N nm qn bs hdct sn sub ab col dd k0 k1 k2 k3 k5 mN,h.get? C=some (excClassObj nm qn C N bs bm hdct sn sub ab col dd k0 k1 k2 k3 k5 newId)∧h.Ns N mN∧mN "__init__"=none∧OwnTail h bmB bm:=by
 unfold PySem.W.excIn at q
 split at q
 ·rename_i dd cd sl ho
  split at q
  ·rename_i C' bm k0 k1 k2 k3 n k5 hm hs
   simp only [kT,beq_iff_eq,Bool.not_eq_true'] at q
   obtain ⟨⟨⟨⟨⟨rfl,rfl⟩,hdel⟩,ht⟩,hok⟩,hni⟩:=q
   obtain ⟨nm,bs,mro,ns,qn,hd,sn,sub,ab,col,del⟩:=cd
   dsimp only at hm hdel hok hni
   subst hm hdel
   have hsl:sl=#[k0,k1,k2,k3,some (.builtin n),k5]:=by
    obtain ⟨l⟩:=sl
    simp only at hs
    rw [hs]
   subst hsl
   exact ⟨bm,ns,nm,qn,bs,hd,sn,sub,ab,col,dd,k0,k1,k2,k3,k5,_,X _ _ ho,.of_isNs (PySem.W.isNs_of_in X hok),PySem.W.nsMap_none_of_in X hok hni,PySem.W.tail_of_in X ht⟩
  ·cases q
 ·cases q
section
variable {X:Cx}
def z1C (E:XK) (C:Addr) (t:TA):TS:=fun _ σ H=>t σ H fun vs H1=>vs.length≤sizeLine∧E (.ref C) none H1
theorem JO {E:XK} {x:Str} {C:Addr} {np cpos pos:Pos} {e₀:Expr} {rest:List Expr} {t:TA} (T:Zq X E) (hx:X.ex=[]) (hc:X.calm=true) (hg:Gl X x) (hm:X.mg x=some (.ref C)) (hC:PySem.W.excIn X.K C rtM "RuntimeError.__new__"=true) (ha:PA X (e₀ :: rest) t)
  (hd:autoParam ((x == ("__debug__":Str))=false) aR._auto_2) (he:autoParam (starEach (e₀ :: rest) X.env=(false,eval e₀ X.env) :: starEach rest X.env) aR._auto_1) (hpl:autoParam ((backTo cpos (starEach rest X.env)).any (·.1)=false) aR._auto_1):
  PS X (.Raise (some (.Call (.Name x np) (e₀ :: rest) [] cpos)) none pos) (z1C E C t):=by
 intro pins s σ H D I h
 obtain ⟨bm,N,nm,qn,bs,hdct,sn,sub,ab,col,dd,k0,k1,k2,k3,k5,mN,o1,o2,o3,o4⟩:=ZC I.ok.mod.kin hC
 have FR:=PySem.F.excBase_RuntimeError
 refine wpAny_Raise_call_subU (C:=C) (nm:=nm) (q:=qn) (N:=N) (bs:=bs) (bm:=bm) (hdct:=hdct) (sn:=sn) (sub:=sub) (ab:=ab) (col:=col) (dd:=dd) (k0:=k0) (k1:=k1) (k2:=k2) (k3:=k3) (k5:=k5)
  FR FR.hasB FR (mN:=mN) (o4.hasType FR.hasBase) (I.ok.hd hc) (by rw [he];show (false||(backTo cpos (starEach rest X.env)).any (·.1))=false;rw [hpl];rfl) o3 (qX I hg hm ⟨rfl,?_⟩ hd)
 have ha':=ha cpos pins s σ H _ I h
 rw [he] at ha' ⊢
 refine Calls.evalArgs_plain (wpAny_mono ha' (fun us s₂ h₂=>?_) fun _ _ y=>y)
 obtain ⟨vs,H1,I1,rv,hz,hE⟩:=h₂
 refine ⟨rfl,by rw [←rv.length];exact hz,I1.bk _ _ o1,o2.keeps I1.bk,o4.keeps I1.bk,fun h' e M=>?_⟩
 have I2:Inv X pins σ H1 { s₂ with heap:=h' }:=I1.kept (t':=s₂.toks) M.keeps
 obtain ⟨tt,q1,q2,q3⟩:=M.there
 exact T pins σ H1 _ e (.ref C) I2 ⟨_,_,q1,rfl,rfl,by simp,I1.older hx e M.new,I1.hok.gone e M.new,.inl rfl⟩ hE
end
end L2
namespace L2
open PySem PySem.Spec PyProof.Rows
section
variable {X:Cx} {pins:List (Addr × Obj)} {σ:St} {H:Hp} {s:Shared}
theorem jF {M:Model} {A:Around} {E:Value→Shared→Prop} {i:Nat} {x:Str} {pos:Pos} {Q:Unit→Shared→Prop} (I:Inv X pins σ H s) (hN:X.N.Nodup) (hi:X.N[i]?=some x) (hk:X.env.scope.names.lookup x=some .local)
  (h:∀s',Inv X pins (σ.set i none) H s'→Q () s'):wpAny M A (do bindName X.env x .none;unbindBehindTheSuite X.env x pos) Q E s:=by
 obtain ⟨m,hn,hl⟩:=id I.loc
 have hcls:(X.env.scope.kind == .class||(X.env.scope.kind == .module&&X.env.locals != X.env.globals))=false:=by rw [I.ok.kind];rfl
 have hiσ:i < σ.length:=by rw [I.len];exact (kd.mp hi).1
 have cne:=I.cne
 refine wpAny_nameGoes_keeps hk hn hcls fun h' v hn' hs=>?_
 obtain ⟨oL,_,_,hoL,_⟩:=id hn
 have tracked:HOk X.prog X.w H h':=fun b ob e=>by
  refine (I.hok b ob e).stay (fun c w' hc q=>(hs.2 c ?_).trans q) (fun _ q=>q) fun _ _ q=>q
  rintro rfl
  rcases hc with hc | hc
  ·rw [←hc,I.free] at e;cases e
  ·rw [I.free] at hc;cases hc
 refine h _ ⟨I.ok,I.os,I.bare,⟨fun b o e n hb hx=>?_,fun b o e n hb hx=>?_,I.base.free,fun b o e hx=>?_,I.base.tups,I.base.frzs,I.base.tbls⟩,⟨_,hn',fun j y v' e1 e2 e3=>?_⟩,fun y c e=>?_,I.free,I.freeC,fun p hp=>?_,tracked,by simpa using I.len⟩
 ·exact (hs.2 b (Nat.ne_of_lt (kE (Heap.lt_size e) I.ok.above))).trans (I.base.keep b o e n hb hx)
 ·obtain ⟨sl,e1⟩:=I.base.slot b o e n hb hx
  exact ⟨sl,(hs.2 b (Nat.ne_of_lt (kE (Heap.lt_size e) I.ok.above))).trans e1⟩
 ·obtain ⟨o',e1⟩:=I.base.there b o e hx
  exact ⟨o',(hs.2 b (Nat.ne_of_lt (kE (Heap.lt_size e) I.ok.above))).trans e1⟩
 ·by_cases hj:j=i
  ·subst hj
   rw [List.getElem?_set_self hiσ] at e2
   cases e2
  ·rw [List.getElem?_set_ne (Ne.symm hj)] at e2
   obtain ⟨u',r',q⟩:=hl j y v' e1 e2 e3
   refine ⟨u',r',?_⟩
   rcases q with ⟨k,e⟩ | ⟨k,c,e,z⟩
   ·refine .inl ⟨k,?_⟩
    have:y≠x:=fun e=>hj (jB hN e1 (e▸hi))
    simp [this,e]
   ·exact .inr ⟨k,c,e,z.sameBut hs (cne y c e)⟩
 ·obtain ⟨w',z⟩:=I.cell y c e
  exact ⟨w',z.sameBut hs (cne y c e)⟩
 ·obtain ⟨e,n,ne,nf,d⟩:=I.pin p hp
  exact ⟨(hs.2 p.1 ne).trans e,n,ne,nf,d⟩
end
section
variable {M:Model} {A:Around} {E:Value→Shared→Prop}
variable {nm q:Str} {C N:Addr} {bs bm:List Value} {hdct:Bool} {sn:List Str} {sub:List Value} {ab:Bool} {col:Option Bool} {dd:Option Addr} {k0 k1 k2 k3 k5:Option Value} {newId:String}
variable {nm2 q2:Str} {C2 N2:Addr} {bs2 bm2:List Value} {hdct2:Bool} {sn2:List Str} {sub2:List Value} {ab2:Bool} {col2:Option Bool} {dd2:Option Addr} {j0 j1 j2 j3 j5:Option Value} {newId2:String}
theorem jI {h:Heap} {g:Array GenState} {d:Drawn} {t:Nat} {os:OsState} {e:Addr} {oe:Obj} {Q:Bool→Shared→Prop}
  (hC:h.get? C=some (excClassObj nm q C N bs bm hdct sn sub ab col dd k0 k1 k2 k3 k5 newId)) (hC2:h.get? C2=some (excClassObj nm2 q2 C2 N2 bs2 bm2 hdct2 sn2 sub2 ab2 col2 dd2 j0 j1 j2 j3 j5 newId2)) (he:h.get? e=some oe) (hcls:oe.cls=.ref C) (hbase:bm2.contains (.type "BaseException")=true) (hup:bm.contains (.ref C2)=true)
  (hq:Q true ⟨h,g,d,t,os⟩):wpAny M A (excMatches (.ref e) (.ref C2)) Q E ⟨h,g,d,t,os⟩:=by
 have hcB:(Value.ref C2 :: bm2).contains (.type "BaseException")=true:=by rw [List.contains_cons,hbase,Bool.or_true]
 have hcC:(Value.ref C :: bm).contains (.ref C2)=true:=by rw [List.contains_cons,hup,Bool.or_true]
 have f:=tc_notTuple
 unfold excMatches
 repeat (first | (with_reducible refine wpAny_loadPart_at he ?_;rw [hcls]) | with_reducible refine wpAny_loadPart_at hC2 ?_ | (with_reducible refine wpAny_isSubtype_exc hC2 ?_;rw [hcB]) | (with_reducible refine wpAny_isSubtype_exc hC ?_;rw [hcC]) | wp_step)
 exact hq
end
end L2
namespace L2
open PySem PySem.Spec PyProof.Rows
section
variable {M:Model} {A:Around} {E:Value→Shared→Prop} {s:Shared}
theorem z1l {fs:List Addr} {e:Addr} {n:Heap} {H:Hp} {cls:Value} {Q:Unit→Shared→Prop} (hfs:∀b∈fs,∀o,s.heap.get? b=some o→∀vs,o.data≠.fields vs) (F:qD n H e cls s.heap)
  (h:∀h',Qu n H fs s.heap h'→qD n H e cls h'→Q () { s with heap:=h' }):wpAny M A (setFlight (.ref e) none) Q E s:=by
 obtain ⟨oe,vs,he,rfl,hd,hsz,hne,heH,h1 | ⟨T,oT,ts,h1,hTe,hTn,hTH,hT,hdT,h3⟩⟩:=F
 ·unfold setFlight
  refine wpAny_bind (wpAny_field he hd h1 ?_)
  rw [kq (by decide)]
  exact wpAny_pure (h s.heap ⟨fun _ _ q _ _=>q,fun b o q _=>⟨o.slots,q⟩,fun b o q=>⟨o,q⟩⟩ ⟨oe,vs,he,rfl,hd,hsz,hne,heH,.inl h1⟩)
 ·unfold setFlight
  refine wpAny_bind (wpAny_field he hd h1 ?_)
  rw [kr (show (Value.ref T != Value.none)=true from by simp)]
  refine wpAny_setField hT hdT (Array.getElem?_eq_some_iff.mp h3).1 (h _ ?_ ?_)
  ·have other:∀b,b≠T→(s.heap.update T (Obj.mapFields (·.setIfInBounds 3 ((none:Option Addr).elim Value.none fun f=>rawInt f)))).get? b=s.heap.get? b:=fun b hb=>Heap.get?_update_other _ _ (Ne.symm hb)
   refine ⟨fun b o hb _ hor=>?_,fun b o hb hm=>?_,fun b o hb=>?_⟩
   ·have hbT:b≠T:=fun z=>by
     rcases hor with q | q
     ·rw [z] at q;exact q hTn
     ·rw [z] at q;exact q hTH
    exact (other b hbT).trans hb
   ·have hbT:b≠T:=fun z=>by
     subst z
     exact hfs b hm oT hT ts hdT
    exact ⟨o.slots,(other b hbT).trans hb⟩
   ·by_cases hbT:b=T
    ·subst hbT
     exact ⟨_,Heap.get?_update_self _ hT (Obj.isFreed_of_fields (Obj.data_mapFields hdT _))⟩
    ·exact ⟨o,(other b hbT).trans hb⟩
  ·refine ⟨oe,vs,(Heap.get?_update_other _ _ hTe).trans he,rfl,hd,hsz,hne,heH,.inr ⟨T,_,_,h1,hTe,hTn,hTH,Heap.get?_update_self _ hT (Obj.isFreed_of_fields (Obj.data_mapFields hdT _)),Obj.data_mapFields hdT _,?_⟩⟩
   rw [Array.getElem?_setIfInBounds_self]
   rw [kr (Array.getElem?_eq_some_iff.mp h3).1]
   rfl
end
noncomputable def Qv (x:Addr) (cls:Value):HO:=.ext fun h=>∃oe vs,h.get? x=some oe∧oe.cls=cls∧oe.data=.fields vs
theorem HOk.caught {P:Program} {w:World} {H:Hp} {n h:Heap} {x:Addr} {cls:Value} (ok:HOk P w H h) (F:qD n H x cls h):HOk P w (upd H x (Qv x cls)) h:=by
 obtain ⟨oe,vs,he,hc,hd,_,_,hH,_⟩:=F
 intro a o e
 by_cases z:a=x
 ·subst z
  rw [z4] at e
  cases e
  refine ⟨⟨oe,vs,he,hc,hd⟩,⟨oe,he⟩,fun h1 h2 p k=>?_⟩
  obtain ⟨oe',vs',a1,a2,a3⟩:=p
  exact ⟨oe',vs',k _ a1,a2,a3⟩
 ·rw [zf z] at e
  exact (ok a o e).stay (fun _ _ _ q=>q) (fun b q=>by rw [zf (zc q hH)];exact q) fun b xs q=>by rw [zf (zc q hH)];exact q
theorem Un.caught {fs:List Addr} {H0 H:Hp} {h0 h:Heap} {x:Addr} {o:HO} (u:Un fs [] H0 H h0 h) (hx:h0.get? x=none) (hH:H x=none):Un fs [] H0 (upd H x o) h0 h:=
 ⟨u.keep,u.slot,fun b ob e nn hb=>by
  have:b≠x:=fun z=>by rw [z,hx] at e;cases e
  rw [zf this]
  exact u.free b ob e nn hb,u.there,fun b xs e=>by rw [zf (zc (u.tups b xs e) hH)];exact u.tups b xs e,fun b ob v e=>by rw [zf (zc (u.frzs b ob v e) hH)];exact u.frzs b ob v e,fun b ps e=>by
  obtain ⟨more,q⟩:=u.tbls b ps e
  exact ⟨more,by rw [zf (zc q hH)];exact q⟩⟩
noncomputable abbrev Cx.mk' (X:Cx) (x:Addr):Cx:={ X with A:=X.A.mark (some (.ref x)),calm:=false,xe:=fun _ _=>False }
section
variable {X:Cx} {pins:List (Addr × Obj)} {σ:St} {H:Hp} {s:Shared} {x:Addr}
theorem Cx.Ok.mk' (ok:X.Ok):(X.mk' x).Ok:=
 ⟨ok.mod,ok.kind,ok.glob,ok.blt,ok.above,ok.inj,ok.has,ok.cab,(fun h=>by cases h),ok.frames,ok.stk,ok.exf,ok.bs,ok.bsz,ok.noex,ok.exfs,ok.funs,ok.frf⟩
theorem Inv.mk' (I:Inv X pins σ H s):Inv (X.mk' x) pins σ H s:=⟨I.ok.mk',I.os,I.bare,I.base,I.loc,I.cell,I.free,I.freeC,I.pin,I.hok,I.len⟩
theorem Inv.unmk (ok:X.Ok) (I:Inv (X.mk' x) pins σ H s):Inv X pins σ H s:=⟨ok,I.os,I.bare,I.base,I.loc,I.cell,I.free,I.freeC,I.pin,I.hok,I.len⟩
end
noncomputable def upIn (K:ko) (C C2:Addr):Bool:=match K.lookup C with
 | some ⟨_,_,.cls cd,_⟩=>cd.mro.tail.contains (.ref C2)
 | _=>false
theorem z2t {K:ko} {h:Heap} {C C2 N:Addr} {nm q:Str} {bs bm:List Value} {hdct:Bool} {sn:List Str} {sub:List Value} {ab:Bool} {col:Option Bool} {dd:Option Addr} {k0 k1 k2 k3 k5:Option Value} {newId:String} (X:K.In h)
  (hC:h.get? C=some (excClassObj nm q C N bs bm hdct sn sub ab col dd k0 k1 k2 k3 k5 newId)) (u:upIn K C C2=true):bm.contains (.ref C2)=true:=by
 unfold upIn at u
 split at u
 ·rename_i ho
  have:=X _ _ ho
  rw [hC] at this
  cases this
  exact u
 ·cases u
end L2
namespace L2
open PySem PySem.Spec PyProof.Rows
section
variable {X:Cx} {k:Nat} {f CM:Addr} {fd:FuncData} {ps:List Str} {sp:Sp} {x found Mn en:Str} {p p1 p2 cpos apos hpos pos:Pos} {e:Expr} {es:List Expr} {t:TA} {b₀:Stmt} {suite:List Stmt} {ts:Addr→TS}
def z1A (K:ko) (CM:Addr) (i j:Nat) (sp:Sp) (t:TA) (ts:Addr→TS):TS:=fun D σ H=>t σ H fun vs H1=>sp vs H1 (fun v H2=>D.nx (σ.set i (some v)) H2)
 (fun cls _ H2=>∃C,cls=.ref C∧PySem.W.excIn K C rtM "RuntimeError.__new__"=true∧upIn K C CM=true∧∀x,H2 x=none→
  ts x { nx:=fun σ' H'=>D.nx (σ'.set j none) H',rt:=D.rt,bk:=fun σ' H'=>D.bk (σ'.set j none) H',ct:=fun σ' H'=>D.ct (σ'.set j none) H' } (σ.set j (some (.ref x))) (upd H2 x (Qv x (.ref C))))
theorem JN {i j:Nat} (F:FnOk X.prog X.w X.K X.mg X.base (CXF X.prog X.w) k f fd ps sp) (hr:Room k X.A) (hg:Gl X x) (hm:X.mg x=some (.ref f)) (hk:PySem.W.keepIn X.K (.ref f)=true) (hb:Zr X.K fd ps []) (ha:PA X.nox (e :: es) t)
  (hN:X.N.Nodup) (hi:X.N[i]?=some found) (hx:Loc X.env.scope found) (hj:X.N[j]?=some en) (hjx:X.env.scope.names.lookup en=some .local) (hgM:Gl X Mn) (hmM:X.mg Mn=some (.ref CM)) (hCM:PySem.W.excIn X.K CM rtM "RuntimeError.__new__"=true)
  (hfr:X.stack=X.env :: X.outer) (hfl:X.env.frame=some X.env.locals) (hs:∀a,PSs (X.mk' a) (b₀ :: suite) (ts a))
  (hsw:autoParam (swapsWith (.Call (.Name x p) (e :: es) [] cpos) (some (.Name found p1)) apos.line X.env=pure false) aR._auto_1) (hf:X.fn found=true∨X.env.scope.names.lookup found=some .local:=by first | exact .inl rfl | exact .inr rfl | assumption)
  (hdb:autoParam ((x == ("__debug__":Str))=false) aR._auto_2) (hdM:autoParam ((Mn == ("__debug__":Str))=false) aR._auto_2) (he:autoParam (starEach (e :: es) X.env=(false,eval e X.env) :: starEach es X.env) aR._auto_1) (hpl:autoParam ((backTo cpos (starEach es X.env)).any (·.1)=false) aR._auto_1):
  PS X (.Try [.Assign [.Name found p1] (.Call (.Name x p) (e :: es) [] cpos) apos] [.ExceptHandler (some (.Name Mn p2)) (some en) (b₀ :: suite) hpos] [] [] pos) (z1A X.K CM i j sp t ts):=by
 intro pins s σ H D I h
 refine wpAny_Try_except ?_
 refine wpAny_execs_cons ?_
 refine wpAny_Assign_Name ?_ hsw
 refine wpAny_Call_Name_kw (qX I hg hm ?_ hdb)
 refine PySem.W.callWith_K (h₀:=X.base) I.ok.mod.kin hk (wpAny_mono (ha cpos pins s σ H _ (I.wish _) h) (fun us s1 h1=>?_) fun _ _ z=>False.elim z) he hpl
 obtain ⟨vs,H1,I1',r1,q1⟩:=h1
 have I1:Inv X pins σ H1 s1:=I1'.unwish
 refine ⟨I1.kIn,?_⟩
 have hl:(us++([]:List Value)).length=ps.length:=by rw [kM,←r1.length];exact F.len _ _ _ _ q1
 have hbt:=hb s1 us I1.kIn hl
 rw [kM] at hbt
 refine wpAny_call (codeAny_mono (F.run X.A X.stack s1 H1 ⟨us,[]⟩ us vs _ _ hr I1.env0 hbt r1 q1) fun r s' hq=>?_)
 cases r with
 | ok fl=>
  cases fl with
  | ret u=>
   obtain ⟨y,H2,I2,r2,q2⟩:=I1.after hq
   exact qL I2 hN hi hx r2 (fun s3 I3=>wpAny_execs_nil (wpAny_execs_nil ⟨_,H2,I3,q2⟩)) hf
  | next=>exact False.elim hq
  | brk=>exact False.elim hq
  | cont=>exact False.elim hq
 | error ev=>
  obtain ⟨xa,cls,H2,rfl,os,bare,un,hok,Fl,C,rfl,hC,hup,hts⟩:=hq
  have I2:Inv X pins σ H2 s':=I1.call' os un hok bare (fun b z=>absurd z (by simp))
  have fsOf:∀{h':Heap},h'.FunFrames X.base (X.env :: X.outer)→∀b∈frs (X.env :: X.outer),∀o,h'.get? b=some o→∀vs,o.data≠.fields vs:=fun hl b hm o ho vs z=>by
   obtain ⟨_,o',ho',hnf⟩:=hl.mem hm
   rw [ho] at ho'
   cases ho'
   exact hnf vs z
  have older:∀b,s'.heap.get? b=none→s1.heap.get? b=none:=fun b hbn=>by
   cases z:s1.heap.get? b with
   | none=>rfl
   | some o=>
    obtain ⟨o',q⟩:=un.there b o z (by simp)
    rw [q] at hbn
    cases hbn
  have hst:=I2.stack
  rw [hfr] at hst
  have hfrs:=I2.ok.frames
  rw [hfr] at hfrs
  refine z20 (base:=X.base) (n:=s1.heap) hfrs hst hfl Fl older (fun a hz=>hok.gone a hz) fun h3 k3 F3=>?_
  have un3:Un (frs X.stack) [] H1 H2 s1.heap h3:=by
   rw [hfr] at un ⊢
   exact un.keeps k3 fun b o z=>by rw [z];simp
  have hfree:∀b∈frs (X.env :: X.outer),H2 b=none:=fun b hb=>I2.stkFree b (by rw [hfr];exact hb)
  have ok3:HOk X.prog X.w H2 h3:=HOk.keeps hok k3 hfree
  have I3:Inv X pins σ H2 { s' with heap:=h3 }:=I1.call' os un3 ok3 bare (fun b z=>absurd z (by simp))
  obtain ⟨bm,N,nm,qn,bs,hdct,sn,sub,ab,col,dd,k0,k1,k2,k3',k5,mN,o1,o2,o3,o4⟩:=ZC I3.kIn hC
  obtain ⟨bm2,N2,nm2,qn2,bs2,hdct2,sn2,sub2,ab2,col2,dd2,j0,j1,j2,j3,j5,mN2,u1,u2,u3,u4⟩:=ZC I3.kIn hCM
  obtain ⟨oe,ve,he3,hcl3,hd3,_⟩:=id F3
  have FR:=PySem.F.excBase_RuntimeError
  refine wpAny_handleBy_cons (codeAny_handlers_test ?_) (by intro z;cases z)
  refine qX (X:=X.mk' xa) (I3.mk' (x:=xa)) hgM hmM ?_ hdM
  refine jI o1 u1 he3 hcl3 (u4.hasType FR.hasBase) (z2t I3.kIn o1 hup) ?_
  refine codeAny_handlers_suite_as ?_
  have hst3:=I3.stack
  rw [hfr] at hst3
  refine z1l (fs:=frs (X.env :: X.outer)) (n:=s1.heap) (fsOf hst3) F3 fun h4 k4 F4=>?_
  have un4:Un (frs X.stack) [] H1 H2 s1.heap h4:=by
   rw [hfr] at un3 ⊢
   exact un3.keeps k4 fun b o z=>by rw [z];simp
  have ok4:HOk X.prog X.w H2 h4:=HOk.keeps ok3 k4 hfree
  obtain ⟨_,_,_,_,_,_,hxn,hxH,_⟩:=id F4
  have I4:Inv X pins σ (upd H2 xa (Qv xa (.ref C))) { s' with heap:=h4 }:=I1.call' os (un4.caught hxn hxH) (ok4.caught F4) bare (fun b z=>absurd z (by simp))
  refine qL I4 hN hj (.inl hjx) (v:=.ref xa) rfl (fun s5 I5=>?_) (.inr hjx)
  refine wpAny_mono (hs xa pins s5 _ _ _ (I5.mk' (x:=xa)) (hts xa hxH)) (fun fl s6 h6=>?_) fun _ _ z=>False.elim z
  cases fl with
  | next=>
   obtain ⟨σ6,H6,I6,q6⟩:=h6
   exact jF (I6.unmk I.ok) hN hj hjx fun s7 I7=>⟨_,H6,I7,q6⟩
  | brk=>
   obtain ⟨σ6,H6,I6,q6⟩:=h6
   exact jF (I6.unmk I.ok) hN hj hjx fun s7 I7=>⟨_,H6,I7,q6⟩
  | cont=>
   obtain ⟨σ6,H6,I6,q6⟩:=h6
   exact jF (I6.unmk I.ok) hN hj hjx fun s7 I7=>⟨_,H6,I7,q6⟩
  | ret u=>
   obtain ⟨v,σ6,H6,I6,r6,q6⟩:=h6
   exact jF (I6.unmk I.ok) hN hj hjx fun s7 I7=>⟨v,_,H6,I7,r6,q6⟩
end
end L2
namespace L2
open PySem PySem.Spec PyProof.Rows
noncomputable def zR:List Str:=["__init__","__getattribute__","__getattr__","__class__"]
inductive ql (h:Heap) (bmB:List Value):List Value→Prop
 | base:ql h bmB bmB
 | own {A:Addr} {c0:Value} {dd:Option Addr} {cd:ClassData} {sl:Array (Option Value)} {mA:Str→Option Value} {tl:List Value}:
   h.get? A=some { cls:=c0,dict:=dd,data:=.cls cd,slots:=sl }→h.Ns cd.ns mA→(∀n∈zR,mA n=none)→ql h bmB tl→ql h bmB (.ref A :: tl)
theorem ql.hasType {h:Heap} {bmB tl:List Value} (T:ql h bmB tl) {X:String} {b:Bool} (hb:bmB.contains (.type X)=b):tl.contains (.type X)=b:=by
 induction T with
 | base=>exact hb
 | own _ _ _ _ ih=>rw [List.contains_cons,ih];rfl
noncomputable def JC (K:ko) (bmB:List Value):List Value→Bool
 | []=>bmB == []
 | v :: r=>(v :: r) == bmB||match v with
  | .ref A=>(match K.lookup A with
   | some ⟨_,_,.cls cd,_⟩=>PySem.W.nsOkIn K cd.ns&&zR.all (fun n=>PySem.W.nsIn K cd.ns n == some none)&&JC K bmB r
   | _=>false)
  | _=>false
theorem ZN {K:ko} {h:Heap} {bmB:List Value} (X:K.In h):∀{l:List Value},JC K bmB l=true→ql h bmB l
 | [],e=>by rw [←beq_iff_eq.mp e];exact .base
 | v :: r,e=>by
  unfold JC at e
  rcases Bool.or_eq_true_iff.mp e with q | q
  ·rw [beq_iff_eq.mp q];exact .base
  ·split at q
   ·split at q
    ·rename_i ho
     simp only [kT,List.all_eq_true,beq_iff_eq] at q
     exact .own (X _ _ ho) (.of_isNs (PySem.W.isNs_of_in X q.1.1)) (fun n hn=>PySem.W.nsMap_none_of_in X q.1.1 (q.1.2 n hn)) (ZN X q.2)
    ·cases q
   ·cases q
noncomputable def excQ (K:ko) (C:Addr) (bmB:List Value) (newId:String):Bool:=match K.lookup C with
 | some ⟨.type "type",_,.cls cd,sl⟩=>(match cd.mro,sl.toList with
  | .ref C' :: bm,[_,_,_,_,some (.builtin n),_]=>C' == C&&n == newId&& !cd.hasDel&&JC K bmB bm&&PySem.W.nsOkIn K cd.ns&&zR.all (fun n=>PySem.W.nsIn K cd.ns n == some none)
  | _,_=>false)
 | _=>false
theorem z08 {K:ko} {h:Heap} {C:Addr} {bmB:List Value} {newId:String} (X:K.In h) (q:excQ K C bmB newId=true):
  ∃bm N nm qn bs hdct sn sub ab col dd k0 k1 k2 k3 k5 mN,h.get? C=some (excClassObj nm qn C N bs bm hdct sn sub ab col dd k0 k1 k2 k3 k5 newId)∧h.Ns N mN∧(∀n∈zR,mN n=none)∧ql h bmB bm:=by
 unfold excQ at q
 split at q
 ·rename_i dd cd sl ho
  split at q
  ·rename_i C' bm k0 k1 k2 k3 n k5 hm hs
   simp only [kT,beq_iff_eq,Bool.not_eq_true',List.all_eq_true] at q
   obtain ⟨⟨⟨⟨⟨rfl,rfl⟩,hdel⟩,ht⟩,hok⟩,hni⟩:=q
   obtain ⟨nm,bs,mro,ns,qn,hd,sn,sub,ab,col,del⟩:=cd
   dsimp only at hm hdel hok hni
   subst hm hdel
   have hsl:sl=#[k0,k1,k2,k3,some (.builtin n),k5]:=by
    obtain ⟨l⟩:=sl
    simp only at hs
    rw [hs]
   subst hsl
   exact ⟨bm,ns,nm,qn,bs,hd,sn,sub,ab,col,dd,k0,k1,k2,k3,k5,_,X _ _ ho,.of_isNs (PySem.W.isNs_of_in X hok),fun m hm=>PySem.W.nsMap_none_of_in X hok (hni m hm),ZN X ht⟩
  ·cases q
 ·cases q
section
variable {M:Model} {A:Around} {E:Value→Shared→Prop} {h:Heap} {g:Array GenState} {d:Drawn} {t:Nat} {os:OsState}
theorem jD {bmB tl:List Value} {n:Str} {y:Option Value} {Q:Option Value→Shared→Prop} (hn:n∈zR) (T:ql h bmB tl) (hrest:lookupAlong bmB n=pure y) (hq:Q y ⟨h,g,d,t,os⟩):
  wpAny M A (lookupAlong tl n) Q E ⟨h,g,d,t,os⟩:=by
 induction T with
 | base=>rw [hrest];exact wpAny_pure hq
 | own hA hN hni _ ih=>
  rw [lookupAlong_cons]
  refine wpAny_bind (wpAny_classOwn_cls hA hN ?_)
  rw [hni n hn]
  exact ih
variable {nm q:Str} {C N:Addr} {bs bm bmB:List Value} {hdct:Bool} {sn:List Str} {sub:List Value} {ab:Bool} {col:Option Bool} {dd:Option Addr} {k0 k1 k2 k3 k5:Option Value} {B newId:String}
theorem qe {mN:Str→Option Value} {n:Str} {y:Option Value} {Q:Option Value→Shared→Prop} (hn:n∈zR)
  (hC:h.get? C=some (excClassObj nm q C N bs bm hdct sn sub ab col dd k0 k1 k2 k3 k5 newId)) (hN:h.Ns N mN) (hmN:∀n∈zR,mN n=none) (T:ql h bmB bm) (hbm:mroOf (.type B)=pure bmB)
  (hB:typeLookup (.type B) n=pure y) (hq:Q y ⟨h,g,d,t,os⟩):wpAny M A (typeLookup (.ref C) n) Q E ⟨h,g,d,t,os⟩:=by
 have hrest:lookupAlong bmB n=pure y:=by rw [typeLookup_eq,hbm] at hB;exact hB
 rw [typeLookup_eq]
 refine wpAny_bind (wpAny_mroOf_exc hC ?_)
 rw [lookupAlong_cons]
 refine wpAny_bind (wpAny_classOwn_exc hC hN ?_)
 rw [hmN n hn]
 exact jD hn T hrest hq
end
theorem ZB:typeLookup (.type "RuntimeError") "__class__"=pure (some (.builtin "object.__class__")):=by rw [typeLookup_type,builtinLookup_eq_fast];kernel_rfl
section
variable {prog:Program} {w:World} {A:Around} {E:Value→Shared→Prop} {h:Heap} {g:Array GenState} {d:Drawn} {t:Nat} {os:OsState} {a:Addr} {o:Obj}
 {nm q:Str} {C N:Addr} {bs bm:List Value} {hdct:Bool} {sn:List Str} {sub:List Value} {ab:Bool} {col:Option Bool} {dd:Option Addr} {k0 k1 k2 k3 k5:Option Value} {newId:String} {mN:Str→Option Value}
theorem jK {R:Result→Shared→Prop} (hC:h.get? C=some (excClassObj nm q C N bs bm hdct sn sub ab col dd k0 k1 k2 k3 k5 newId)) (T:ql h rtM bm) (hx:h.get? a=some o) (hc:o.cls=.ref C) (hq:R (.ok (.ret (.ref C))) ⟨h,g,d,t,os⟩):
  codeAny (model prog w) A (.call (.builtin "getset_descriptor.__get__") ⟨[.builtin "object.__class__",.ref a,.ref C],[]⟩) R ⟨h,g,d,t,os⟩:=by
 have hT5:(⟨h,g,d,t,os⟩:Shared).TypeIs (.builtin "object.__class__") "getset_descriptor":=F.typeOf_object_class
 have hcB:(Value.ref C :: bm).contains (.type (".".intercalate ("object.__class__".cutAt '.').dropLast))=true:=by
  rw [F.owner_object_class,List.contains_cons,T.hasType (show rtM.contains (.type "object")=true by trivial)];rfl
 refine codeAny_call_builtin F.slot_gs_get.plain F.entry_gs_get (F.slot_gs_get.check _ _ _ _ _ _ _ _ hT5 (F.args_gs_get _ _ _) ?_)
 repeat (any_goals (first | assumption | (with_reducible refine wpAny_loadPart_at hx ?_;rw [hc]) | (with_reducible refine wpAny_isSubtype_exc hC ?_;rw [hcB]) | wp_step))
 refine ⟨Code.quiet_builtin _ (by trivial),codeAny_builtin F.entry_object_class ?_⟩
 unfold Builtin.«object.__class__»
 repeat (any_goals (first | assumption | (with_reducible refine wpAny_loadPart_at hx ?_;rw [hc]) | wp_step))
theorem ja {tk:Tok} {Q:Fin→Shared→Prop} (hC:h.get? C=some (excClassObj nm q C N bs bm hdct sn sub ab col dd k0 k1 k2 k3 k5 newId)) (hN:h.Ns N mN) (hmN:∀n∈zR,mN n=none) (T:ql h rtM bm) (hx:h.get? a=some o) (hc:o.cls=.ref C) (hq:Q (.done (.ret (.ref C))) ⟨h,g,d,t,os⟩):
  wpAny (model prog w) A (Builtin.«object.__getattribute__» ⟨[.ref a,.str "__class__" tk],[]⟩) Q E ⟨h,g,d,t,os⟩:=by
 have hT5:(⟨h,g,d,t,os⟩:Shared).TypeIs (.builtin "object.__class__") "getset_descriptor":=F.typeOf_object_class
 have f5:=F.typeOf_object_class
 have f6:=F.slot_gs_get.lookup
 have f7:=F.slot_gs_set.lookup
 have hmA:("__class__":Str)∈zR:=.tail _ (.tail _ (.tail _ (.head _)))
 have FB:=F.attrBase_RuntimeError
 repeat (any_goals (first | assumption | (with_reducible refine wpAny_loadPart_at hx ?_;rw [hc]) | with_reducible refine qe hmA hC hN hmN T FB.mro ZB ?_ | wp_step))
 refine jK hC T hx hc ?_
 repeat (any_goals (first | assumption | wp_step))
theorem Zj {M:Model} {nameV:Value} {Q:Unit→Shared→Prop} (hC:h.get? C=some (excClassObj nm q C N bs bm hdct sn sub ab col dd k0 k1 k2 k3 k5 newId)) (T:ql h rtM bm)
  (hx:h.get? a=some o) (hc:o.cls=.ref C) (hq:Q () ⟨h,g,d,t,os⟩):wpAny M A (checkBuiltinCall "BaseException.__getattribute__" ⟨[.ref a,nameV],[]⟩) Q E ⟨h,g,d,t,os⟩:=by
 have hk:builtinKind "BaseException.__getattribute__"=some .slot:=by trivial
 have hsplit:splitId "BaseException.__getattribute__"=some ("BaseException","__getattribute__"):=by trivial
 have hcB:(Value.ref C :: bm).contains (.type "BaseException")=true:=by rw [List.contains_cons,T.hasType (show rtM.contains (.type "BaseException")=true by trivial)];rfl
 have ha:=F.args_bexc_ga (.ref a) nameV
 simp only [checkBuiltinCall,hk,hsplit]
 refine wpAny_bind ?_
 ·unfold isInstance
  repeat (first | (with_reducible refine wpAny_loadPart_at hx ?_;rw [hc]) | (with_reducible refine wpAny_isSubtype_exc hC ?_;rw [hcB]) | wp_step)
  exact hq
theorem Zi {tk:Tok} {fill expr:Bool} {Q:Value→Shared→Prop} (hC:h.get? C=some (excClassObj nm q C N bs bm hdct sn sub ab col dd k0 k1 k2 k3 k5 newId)) (hN:h.Ns N mN) (hmN:∀n∈zR,mN n=none) (T:ql h rtM bm) (hx:h.get? a=some o) (hc:o.cls=.ref C) (hq:Q (.ref C) ⟨h,g,d,t,os⟩):
  wpAny (model prog w) A (getAttrBy (.ref a) (.str "__class__" tk) fill expr) Q E ⟨h,g,d,t,os⟩:=by
 have FB:=F.attrBase_RuntimeError
 have f3:=FB.ga.bind (.ref a)
 have hx0:(expr&&onTheHeap (Value.builtin "BaseException.__getattribute__"))=false:=by cases expr <;> rfl
 have hx2:(Value.builtin "BaseException.__getattribute__" == Value.builtin "object.__getattribute__")=false:=by trivial
 have hx1:(onTheHeap (Value.ref C)&&Value.builtin "BaseException.__getattribute__" == Value.builtin "object.__getattribute__")=false:=by rw [hx2];rfl
 have hm1:("__getattribute__":Str)∈zR:=.tail _ (.head _)
 have hm2:("__getattr__":Str)∈zR:=.tail _ (.tail _ (.head _))
 repeat (any_goals (first | assumption | (with_reducible refine wpAny_loadPart_at hx ?_;rw [hc]) | with_reducible refine qe hm1 hC hN hmN T FB.mro FB.ga.lookup ?_ | with_reducible refine qe hm2 hC hN hmN T FB.mro FB.noGetattr ?_ | wp_step))
 refine codeAny_call_builtin FB.ga.plain F.entry_bexc_ga (Zj hC T hx hc (ja hC hN hmN T hx hc ?_))
 repeat (any_goals (first | assumption | wp_step))
theorem jd {Q:Option Value→Shared→Prop} (hC:h.get? C=some (excClassObj nm q C N bs bm hdct sn sub ab col dd k0 k1 k2 k3 k5 newId)) (hN:h.Ns N mN) (hmN:∀n∈zR,mN n=none) (T:ql h rtM bm) (hx:h.get? a=some o) (hc:o.cls=.ref C) (hq:Q (some (.ref C)) ⟨h,g,d,t+1,os⟩):
  wpAny (model prog w) A (getAttr? (.ref a) "__class__") Q E ⟨h,g,d,t,os⟩:=by
 unfold getAttr? getAttrBy?
 repeat (any_goals (first | assumption | with_reducible apply Zi hC hN hmN T hx hc | wp_step))
end
end L2
namespace L2
open PySem PySem.Spec PyProof.Rows
section
variable {prog:Program} {w:World} {A:Around} {E:Value→Shared→Prop} {h:Heap} {g:Array GenState} {d:Drawn} {t:Nat} {os:OsState} {a:Addr} {o:Obj}
 {nm q:Str} {C N:Addr} {bs bm:List Value} {hdct:Bool} {sn:List Str} {sub:List Value} {ab:Bool} {col:Option Bool} {dd:Option Addr} {k0 k1 k2 k3 k5:Option Value} {newId:String} {mN:Str→Option Value}
theorem Zy {dep:Int} {tk:Tok} {Q:Fin→Shared→Prop} (hx:h.get? a=some o) (hc:o.cls=.ref C) (hq:Q (.done (.ret (.bool true))) ⟨h,g,d,t,os⟩):
  wpAny (model prog w) A (Builtin.«isinstance.nested» ⟨[.ref a,.ref C,.int dep tk],[]⟩) Q E ⟨h,g,d,t,os⟩:=by
 have e:(Value.ref C == Value.ref C)=true:=kS _
 repeat (any_goals (first | assumption | (with_reducible refine wpAny_loadPart_at hx ?_;rw [hc]) | (rw [kr e]) | wp_step))
theorem Z6 {C2:Addr} {c2d:Option Addr} {cd2:ClassData} {sl2:Array (Option Value)} {dep:Int} {tk:Tok} {Q:Fin→Shared→Prop} (hC:h.get? C=some (excClassObj nm q C N bs bm hdct sn sub ab col dd k0 k1 k2 k3 k5 newId)) (hN:h.Ns N mN) (hmN:∀n∈zR,mN n=none) (T:ql h rtM bm)
  (hx:h.get? a=some o) (hc:o.cls=.ref C) (hC2:h.get? C2=some { cls:=.type "type",dict:=c2d,data:=.cls cd2,slots:=sl2 }) (hne:(Value.ref C == Value.ref C2)=false) (hno:bm.contains (.ref C2)=false) (hq:Q (.done (.ret (.bool false))) ⟨h,g,d,t+1,os⟩):
  wpAny (model prog w) A (Builtin.«isinstance.nested» ⟨[.ref a,.ref C2,.int dep tk],[]⟩) Q E ⟨h,g,d,t,os⟩:=by
 have hcn:(Value.ref C :: bm).contains (.ref C2)=false:=by
  rw [List.contains_cons,hno,Bool.or_false]
  cases z:(Value.ref C2 == Value.ref C) with
  | false=>rfl
  | true=>
   rw [beq_iff_eq.mp z] at hne
   rw [kS] at hne
   cases hne
 have hn:¬((Value.ref C == Value.ref C2)=true):=by rw [hne];exact ka
 repeat (any_goals (first | assumption | (with_reducible refine wpAny_loadPart_at hx ?_;rw [hc]) | with_reducible refine wpAny_loadPart_at hC2 ?_ | with_reducible refine wpAny_loadPart_at hC ?_ | (with_reducible refine wpAny_isSubtype_exc hC ?_;rw [hcn]) | with_reducible apply jd hC hN hmN T hx hc | (rw [kq hn]) | wp_step))
theorem QZ {dep:Int} {tk:Tok} {Q:Fin→Shared→Prop} (hC:h.get? C=some (excClassObj nm q C N bs bm hdct sn sub ab col dd k0 k1 k2 k3 k5 newId)) (T:ql h rtM bm) (hx:h.get? a=some o) (hc:o.cls=.ref C) (hq:Q (.done (.ret (.bool true))) ⟨h,g,d,t,os⟩):
  wpAny (model prog w) A (Builtin.«isinstance.nested» ⟨[.ref a,.type "RuntimeError",.int dep tk],[]⟩) Q E ⟨h,g,d,t,os⟩:=by
 have hcy:(Value.ref C :: bm).contains (.type "RuntimeError")=true:=by rw [List.contains_cons,T.hasType (show rtM.contains (.type "RuntimeError")=true by trivial)];rfl
 have hn:¬((Value.ref C == Value.type "RuntimeError")=true):=fun z=>by cases (beq_iff_eq.mp z)
 have hty:typeOf (.type "RuntimeError")=pure (.type "type"):=by kernel_rfl
 repeat (any_goals (first | assumption | (with_reducible refine wpAny_loadPart_at hx ?_;rw [hc]) | with_reducible refine wpAny_loadPart_at hC ?_ | (with_reducible refine wpAny_isSubtype_exc hC ?_;rw [hcy]) | (rw [kq hn]) | (rw [hty]) | wp_step))
end
theorem z2u {K:ko} {h:Heap} {C C2 N:Addr} {nm q:Str} {bs bm:List Value} {hdct:Bool} {sn:List Str} {sub:List Value} {ab:Bool} {col:Option Bool} {dd:Option Addr} {k0 k1 k2 k3 k5:Option Value} {newId newId2:String} {bmB:List Value} (X:K.In h)
  (hC:h.get? C=some (excClassObj nm q C N bs bm hdct sn sub ab col dd k0 k1 k2 k3 k5 newId)) (hq:excQ K C bmB newId2=true):upIn K C C2=bm.contains (.ref C2):=by
 unfold excQ at hq
 split at hq
 ·rename_i ho
  have:=X _ _ ho
  rw [hC] at this
  cases this
  unfold upIn
  rw [ho]
  rfl
 ·cases hq
noncomputable def qg (K:ko) (C:Addr):Bool:=match K.lookup C with
 | some ⟨.type "type",_,.cls _,_⟩=>true
 | _=>false
theorem z2p {K:ko} {h:Heap} {C:Addr} (X:K.In h) (q:qg K C=true):∃d cd sl,h.get? C=some { cls:=.type "type",dict:=d,data:=.cls cd,slots:=sl }:=by
 unfold qg at q
 split at q
 ·rename_i ho
  exact ⟨_,_,_,X _ _ ho⟩
 ·cases q
section
variable {X:Cx}
theorem zD:qK X (.builtin "isinstance") (fun xs H Q=>∃x C c b,xs=[.ref x,c]∧H x=some (Qv x (.ref C))∧excQ X.K C rtM "RuntimeError.__new__"=true∧
  ((c=.ty "RuntimeError"∧b=true)∨(∃C2,c=.ref C2∧((C2=C∧b=true)∨(C2≠C∧qg X.K C2=true∧upIn X.K C C2=false∧b=false))))∧Q (.bl b) H):=by
 intro pins s σ H xs us Q I r h
 obtain ⟨x,C,c,b,rfl,hx,hC,hc,qq⟩:=h
 obtain ⟨u,u2,rfl,ru,r2⟩:=z1x r
 cases ru
 obtain ⟨bm,N,nm,qn,bs,hdct,sn,sub,ab,col,dd,k0,k1,k2,k3,k5,mN,o1,o2,o3,o4⟩:=z08 I.kIn hC
 obtain ⟨⟨oe,ve,e1,e2,e3⟩,_⟩:=I.hok x _ hx
 obtain ⟨hp,g,d,tk,os⟩:=s
 have fin:∀tk',EP X pins σ Q (.bool b) ⟨hp,g,d,tk',os⟩:=fun tk'=>⟨.bl b,H,I.tok tk',rfl,qq⟩
 rcases hc with ⟨rfl,rfl⟩ | ⟨C2,rfl,⟨rfl,rfl⟩ | ⟨hne,hcl,hup,rfl⟩⟩
 ·cases r2
  exact call_isinstance (S:=fun _ R s=>s=⟨hp,g,d,tk,os⟩∧R (.ok (.ret (.bool true))) s) (fun _ _ _ _ s hs=>by
   obtain ⟨rfl,hR⟩:=hs
   exact isinstance_outer (QZ o1 o4 e1 e2 hR) (by intro z;cases z)) ⟨rfl,fin tk⟩
 ·cases r2
  exact call_isinstance (S:=fun _ R s=>s=⟨hp,g,d,tk,os⟩∧R (.ok (.ret (.bool true))) s) (fun _ _ _ _ s hs=>by
   obtain ⟨rfl,hR⟩:=hs
   exact isinstance_outer (Zy e1 e2 hR) (by intro z;cases z)) ⟨rfl,fin tk⟩
 ·cases r2
  obtain ⟨d2,cd2,sl2,hC2⟩:=z2p I.kIn hcl
  rw [z2u I.kIn o1 hC] at hup
  have hb:(Value.ref C == Value.ref C2)=false:=by
   cases z:(Value.ref C == Value.ref C2) with
   | false=>rfl
   | true=>cases (beq_iff_eq.mp z);exact absurd rfl hne
  exact call_isinstance (S:=fun _ R s=>s=⟨hp,g,d,tk,os⟩∧R (.ok (.ret (.bool false))) { s with toks:=s.toks+1 }) (fun _ _ _ _ s hs=>by
   obtain ⟨rfl,hR⟩:=hs
   exact isinstance_outer (Z6 o1 o2 o3 o4 e1 e2 hC2 hb hup hR) (by intro z;cases z)) ⟨rfl,fin (tk+1)⟩
end
end L2
set_option maxHeartbeats 8000000
namespace My
open PySem PySem.Spec PyProof.Rows L2
variable {P:Program} {w:World} {K:ko} {mg:Str→Option Value} {base:Heap}
def FNX (P:Program) (w:World) (K:ko) (mg:Str→Option Value) (base:Heap) (k:Nat) (name:Str) (ps:List Str) (sp:Sp):Prop:=
 ∃f fd,mg name=some (.ref f)∧PySem.W.keepIn K (.ref f)=true∧Zr K fd ps []∧FnOk P w K mg base (CXF P w) k f fd ps sp
section
theorem FNX.of {name:Str} {st:Stmt} {N ps:List Str} {sp:Sp} {k:Nat} (D:zy K mg name st) (S:zl N ps (za st))
  (hb:∀(kV doc pm:Value) (an:Option Addr) (cdv ct:Value) (us:List Value),us.length=ps.length→bindArgs (PySem.W.fnOf name name (zO st) (zx st) (za st) .none kV doc pm an cdv ct) ⟨us,[]⟩=pure (ps.zip us))
  (len:∀vs H Q E,sp vs H Q E→vs.length=ps.length)
  (hbody:∀(f:Addr) (cdv:Value) (A:Around) (outer:List Env) (s:Shared) (H:Hp) (vs:List V) (Q:VK) (E:XK),Room k (A.deeper (envOfC name (za st) s.heap.objs.size f cdv))→sp vs H Q E→
   ∃t,PSs (cxOf (CXF P w) P w K mg base N name (za st) f cdv A outer s H E) (zx st) t∧t { nx:=fun _ H'=>Q .non H',rt:=Q } (start N vs) H):FNX P w K mg base (k+1) name ps sp:=by
 obtain ⟨f,fd,F,m⟩:=D
 refine ⟨f,fd,m,F.kp,F.binds hb,?_⟩
 obtain ⟨oc,od,kV,doc,pm,an,cdv,ct,osl,rfl,lk,hcd⟩:=F.ex
 exact z2e lk hcd S len fun A outer s H vs Q E hr hsp=>hbody f cdv A outer s H vs Q E hr hsp
end
section
variable {X:Cx} {k:Nat} {name:Str} {ps:List Str} {sp:Sp} {p pos:Pos} {e:Expr} {es:List Expr} {t:TA} {E:XK}
theorem z1U (F:FNX X.prog X.w X.K X.mg X.base k name ps sp) (hr:Room k X.A) (T:Zq X E) (hx:X.ex=[]) (hg:Gl X name) (ha:PA X (e :: es) t) (hdb:autoParam ((name == ("__debug__":Str))=false) aR._auto_2)
  (he:autoParam (starEach (e :: es) X.env=(false,eval e X.env) :: starEach es X.env) aR._auto_1) (hpl:autoParam ((backTo pos (starEach es X.env)).any (·.1)=false) aR._auto_1):
  PE X (.Call (.Name name p) (e :: es) [] pos) (JF sp [] E t):=by
 obtain ⟨f,fd,a,b,c,d⟩:=F
 exact QU d hr hg a b c .nil (T.pass hx fun _ _ h=>h) ha hdb he hpl
end
inductive BadO (H:Hp):V→Prop
 | non:BadO H .non
 | tup {t:Addr} {xs:List V} (h:H t=some (.tup xs)):BadO H (.ref t)
 | dct {d:Addr} {kvs:List (Key × V)} (h:H d=some (.dK kvs)):BadO H (.ref d)
 | long {l:Addr} {xs:List V} (h:H l=some (.lst xs)) (hl:xs.length=0∨9 < xs.length):BadO H (.ref l)
 | odd {l:Addr} {xs:List V} (h:H l=some (.lst xs)) (h1:1≤xs.length) (h9:xs.length≤9) (hs:∀x∈xs,Scal x) (ho:xs.all qJ=false):BadO H (.ref l)
 | num {l:Addr} {ns:List Int} (h:H l=some (.lst (ns.map V.int))) (h1:1≤ns.length) (h9:ns.length≤9) (hp:¬ns.Perm (iv (List.range ns.length))):BadO H (.ref l)
theorem BadO.same {H H':Hp} {x:V} (h:BadO H x) (s:Same H H'):BadO H' x:=by
 cases h with
 | non=>exact .non
 | tup h=>exact .tup (s _ _ h)
 | dct h=>exact .dct (s _ _ h)
 | long h hl=>exact .long (s _ _ h) hl
 | odd h h1 h9 hs ho=>exact .odd (s _ _ h) h1 h9 hs ho
 | num h h1 h9 hp=>exact .num (s _ _ h) h1 h9 hp
section
def z0r:Sp:=fun vs H Q _=>∃x,vs=[x]∧BadO H x∧∀H',Same H H'→Q (.bl false) H'
theorem Z4 {l bl:Addr} {xs:List V} {H:Hp} {R:Hp→Prop} (hl:H l=some (.lst xs)) (hn:xs.length≤1000) (hs:∀x∈xs,Scal x) (hbl:H bl=none) (hd:∀H',Same H H'→H' bl=some (.lst ((xs.map qJ).map V.bl))→R H'):
  ∃W:Nat→Nat→List V→L2.St→Hp→Prop,(∃m,W 0 m [] [none] (upd H bl (.lst [])))∧∀i m ys σ' H2,W i m ys σ' H2→
   ((Itl K l).stop i H2∧R H2)∨((Itl K l).go i H2∧∀x H3,(Itl K l).yld i H2 x H3→Qo 0 x σ' H3 fun σ2 H4=>tAll σ2 H4 fun b H5=>if b=true then JF (sp1 qJ) [] E0 (z1G (tVar 0) tNil) σ2 H5 fun v H6=>H6 bl=some (.lst ys)∧ys.length < sizeLine∧∃m',m' < m∧W (i+1) m' (ys++[v]) σ2 (upd H6 bl (.lst (ys++[v])))
    else ∃m',m' < m∧W (i+1) m' ys σ2 H5):=by
 refine zY (K:=K) (a:=l) (xs:=xs) (fun i ys σ H2=>(∃a:Option V,σ=[a])∧ys=((xs.take i).map qJ).map V.bl∧Same H H2∧H2 bl=some (.lst ys))
  ⟨⟨none,rfl⟩,rfl,zb hbl _,z4⟩ (fun i ys σ H2 _ ⟨_,_,s2,_⟩=>s2.seq (SqL.of hl)) ?_ ?_
 ·rintro i x ys σ H2 hi ⟨⟨b,rfl⟩,rfl,s2,hp2⟩
  have hil:i < xs.length:=(kd.mp hi).1
  refine zF ?_
  refine Zv ⟨_,rfl,_,rfl,hs x (kz hi),hp2,?_,xs.length - (i+1),by lia,rfl,by lia,⟨_,rfl⟩,?_,?_,z4⟩
  ·rw [kg,kg,List.length_take,sizeLine_eq];lia
  ·rw [jR hi,kC,kC];rfl
  ·exact My.Same.upd s2 hbl _
 ·rintro ys σ H2 ⟨_,rfl,s2,hp2⟩
  rw [List.take_length] at hp2
  exact hd H2 s2 hp2
theorem z1h (D:zy K mg "is_order" (top 14)) (G:Glo mg) (GS:GloS mg) (FN1:FN P w K mg base 1 "is_number" ["thing"] (sp1 qJ)):FN P w K mg base 2 "is_order" ["thing"] z0r:=by
 refine FN.o D sc14 fun f cdv A outer s H vs Q E hr h=>?_
 obtain ⟨x,rfl,hx,q⟩:=h
 have hu:(A.deeper (envOfC "is_order" (za (top 14)) s.heap.objs.size f cdv)).units < cLine:=hr.units0
 refine ⟨_,z8 (qj (PW.pt (QN (qm (qE (zg zG rfl G.isinstance ze (z3 (pv 0) (z3 (jZ "list" rfl G.list zP) z5))))) (ZS (qm (ZT JU JU zd (zg zj rfl G.len zm (z3 (pv 0) z5)) (ZY rfl GS.places))))))
   (zi (zo qI)) zE)
  (zi (zo (jh (zg (qw rfl) rfl G.all Zl (z3 (qu (N:=["number"]) (nt:=1) (ix:=[]) (cl:=[]) rfl (qc.plain (by trivial) (by trivial) rfl (by trivial) rfl) (qx (pv 0))
    (fun _ _ _ _=>zK (i:=0) ndN rfl (Or.inl rfl)) (fun _ _ _ _=>Zw) (fun _ _ _ _=>zN FN1 hr rfl (z3 (pv 0) z5))) z5))
   (jf (qy (z0y hu) (zg qH rfl GS.sorted jb (z3 (pv 0) z5)) (zU rfl rfl G.list rfl G.range (z3 (zg zj rfl G.len zm (z3 (pv 0) z5)) z5)) (zA _)))))),?_⟩
 cases hx with
 | non=>exact ⟨_,rfl,_,"list",_,false,rfl,.non,rfl,_,rfl,iteT (q _ (Same.refl _))⟩
 | tup h=>exact ⟨_,rfl,_,"list",_,false,rfl,.tup h,rfl,_,rfl,iteT (q _ (Same.refl _))⟩
 | dct h=>exact ⟨_,rfl,_,"list",_,false,rfl,.dK h,rfl,_,rfl,iteT (q _ (Same.refl _))⟩
 | @long l xs h hl=>
  refine ⟨_,rfl,_,"list",_,true,rfl,.lst h,rfl,_,rfl,iteF ?_⟩
  refine ⟨_,rfl,l,_,rfl,.inl (SqL.of h),_,_,rfl,rfl,decide (1≤(xs.length:Int)),rfl,?_⟩
  rcases hl with hl | hl
  ·rw [ke (by lia)]
   exact iteF ⟨_,rfl,iteT (q _ (Same.refl _))⟩
  ·rw [kf (by lia)]
   refine iteT ⟨_,_,rfl,rfl,false,congrArg V.bl (ke (by lia)),iteT (q _ (Same.refl _))⟩
 | @odd l xs h h1 h9 hs ho=>
  refine ⟨_,rfl,_,"list",_,true,rfl,.lst h,rfl,_,rfl,iteF ?_⟩
  refine ⟨_,rfl,l,_,rfl,.inl (SqL.of h),_,_,rfl,rfl,true,congrArg V.bl (kf (by lia)),iteT ⟨_,_,rfl,rfl,true,congrArg V.bl (kf (by lia)),iteF ?_⟩⟩
  refine ⟨_,rfl,l,rfl,⟨_,SqL.of h⟩,fun bl hbl=>Z4 h (by lia) hs hbl fun H2 s2 hb2=>?_⟩
  refine ⟨bl,_,rfl,SqL.of hb2,?_⟩
  have:(xs.map qJ).all id=false:=by rw [List.all_map];exact ho
  rw [this]
  exact ⟨false,rfl,iteF (q _ s2)⟩
 | @num l ns h h1 h9 hp=>
  refine ⟨_,rfl,_,"list",_,true,rfl,.lst h,rfl,_,rfl,iteF ?_⟩
  have lm:(ns.map V.int).length=ns.length:=kg ..
  refine ⟨_,rfl,l,_,rfl,.inl (SqL.of h),_,_,rfl,rfl,true,congrArg V.bl (kf (by lia)),iteT ⟨_,_,rfl,rfl,true,congrArg V.bl (kf (by lia)),iteF ?_⟩⟩
  refine ⟨_,rfl,l,rfl,⟨_,SqL.of h⟩,fun bl hbl=>Z4 h (by lia) (fun x hx=>by obtain ⟨i,_,e⟩:=kW.mp hx;rw [←e];exact .int i) hbl fun H2 s2 hb2=>?_⟩
  refine ⟨bl,_,rfl,SqL.of hb2,?_⟩
  have:((ns.map V.int).map qJ).all id=true:=by rw [List.all_map,List.all_map,List.all_eq_true];intro i _;rfl
  rw [this]
  refine ⟨true,rfl,iteT ?_⟩
  refine ⟨_,rfl,l,ns,rfl,SqL.of (s2 _ _ h),by lia,fun d ns' hd pm pw=>?_⟩
  have s3:=zb hd (.lst (ns'.map V.int))
  have s23:=s2.trans s3
  refine ⟨_,rfl,l,_,rfl,.inl (SqL.of (s23 _ _ h)),ns.length,by rw [lm],by lia,fun l2 hl2=>?_⟩
  have s4:=zb hl2 (.lst (((List.range ns.length).map fun i:Nat=>(i:Int)).map V.int))
  refine ⟨d,l2,ns',iv (List.range ns.length),rfl,rfl,SqL.of (s4 _ _ z4),SqL.of z4,?_⟩
  rw [ke (fun z=>hp (by rw [←z];exact pm.symm))]
  exact q _ (s23.trans s4)
def QE (CB:Addr):Sp:=fun vs H Q E=>JH vs H Q E∨∃x,vs=[x]∧BadO H x∧∀H',Same H H'→E (.ref CB) none H'
theorem z1i {CB:Addr} (D:zy K mg "fewest_swaps" (top 18)) (mB:mg "BadOrder"=some (.ref CB)) (cB:PySem.W.excIn K CB rtM "RuntimeError.__new__"=true) (FO:FN P w K mg base 2 "is_order" ["thing"] z0P) (FB:FN P w K mg base 2 "is_order" ["thing"] z0r) (FT:FN P w K mg base 2 "swaps_to" ["order"] spTo):FNX P w K mg base 3 "fewest_swaps" ["order"] (QE CB):=by
 refine FNX.of D sc18 (fun _ _ _ _ _ _=>zU1 fun _=>rfl) (fun vs H Q E h=>by rcases h with ⟨o,os,ks,rfl,_⟩ | ⟨x,rfl,_⟩ <;> rfl) (fun f cdv A outer s H vs Q E hr h=>?_)
 rcases h with h | h
 ·obtain ⟨o,os,ks,rfl,ho,h1,hn,hp,hw,hk,q⟩:=h
  refine ⟨_,z8 (qj (qm (qE (zN FO hr rfl (z3 (pv 0) z5)))) (zi ZU) zE) (zi (zo (zN FT hr rfl (z3 (pv 0) z5)))),?_⟩
  refine ⟨_,rfl,o,os,rfl,ho,h1,hn,hp,fun H1 s1=>⟨_,rfl,iteF ?_⟩⟩
  exact ⟨_,rfl,o,os,ks,rfl,s1 _ _ ho,h1,by lia,hw,hk,fun d H' s' hd hd'=>q d H' (s1.trans s') (s1.free hd) hd'⟩
 ·obtain ⟨x,rfl,hx,q⟩:=h
  refine ⟨_,z8 (qj (qm (qE (zN FB hr rfl (z3 (pv 0) z5)))) (zi (JO je rfl rfl rfl mB cB (z3 zS z5))) zE) (zi (zo (zN FT hr rfl (z3 (pv 0) z5)))),?_⟩
  refine ⟨_,rfl,_,rfl,hx,fun H1 s1=>⟨_,rfl,iteT ?_⟩⟩
  exact ⟨by show 1≤sizeLine;decide,q H1 s1⟩
end
end My
set_option maxHeartbeats 4000000
namespace L2
open PySem PySem.Spec PyProof.Rows
section
variable {X:Cx}
def z0T:V→List V→Hp→VK→Prop:=fun x vs H Q=>∃(l:Addr) (bs:List Bool) (j:Nat),x=.ref l∧vs=[.bl true]∧H l=some (.lst (bs.map V.bl))∧bs[j]?=some true∧(∀m,m < j→bs[m]?=some false)∧bs.length≤1000∧Q (.int (j:Nat)) H
theorem Qc {bs:List Bool} {its:List Value} (r:Vals (bs.map V.bl) its) (hl:bs.length=its.length):∀(m:Nat) (hm:m < its.toArray.size),∃k,bs[m]?=some k∧its.toArray[m]=.bool k:=fun m hm=>by
 have hm:m < its.length:=by simpa using hm
 have k1:m < bs.length:=by lia
 obtain ⟨u,e1,r1⟩:=r.get (show (bs.map V.bl)[m]?=some (.bl bs[m]) by simp [k1])
 refine ⟨bs[m],by simp [k1],?_⟩
 have:=kD hm
 rw [e1] at this
 cases r1
 simpa using (kt this).symm
theorem J3:MtM X "list.index" z0T:=by
 intro pins s σ H x vs v us Q I rx rv h
 obtain ⟨l,bs,j,rfl,rfl,hH,hj,hno,hz,q⟩:=h
 cases rx
 obtain ⟨u,rfl,ru⟩:=rv.one
 cases ru
 obtain ⟨z,its,n,r,hl,e⟩:=I.lstM hH
 rw [kg] at hl
 have at_:=Qc r (by lia)
 have hjl:j < bs.length:=(kd.mp hj).1
 refine call_meets F.slot_list_index ⟨_,e,rfl⟩ F.entry_list_index (F.args_list_index_2 _ _)
  (SeqAt.list_indexAt l its.toArray n none #[] (.bool true) (fun y=>match y with | .bool k=>k == true | _=>false) j (by rw [kx];lia) (by lia) ?_ ?_) ⟨e,?_,?_⟩
 ·obtain ⟨k,e1,e2⟩:=at_ j (by rw [kx];lia)
  rw [e2]
  rw [hj] at e1
  cases e1
  rfl
 ·intro m hm hlt
  obtain ⟨k,e1,e2⟩:=at_ m hm
  rw [e2]
  rw [hno m hlt] at e1
  cases e1
  rfl
 ·intro y hy
  obtain ⟨m,hm,rfl⟩:=Array.mem_iff_getElem.mp hy
  obtain ⟨k,e1,e2⟩:=at_ m hm
  rw [e2]
  exact SeqAt.EqAt.bool_bool _ _
 ·exact ⟨.int (j:Nat),H,I.tok _,⟨_,rfl⟩,q⟩
def z0U:V→List V→Hp→VK→Prop:=fun x vs H Q=>∃(l:Addr) (bs:List Bool),x=.ref l∧vs=[.bl true]∧H l=some (.lst (bs.map V.bl))∧bs.length≤1000∧Q (.int ((bs.countP id:Nat):Int)) H
theorem J4:MtM X "list.count" z0U:=by
 intro pins s σ H x vs v us Q I rx rv h
 obtain ⟨l,bs,rfl,rfl,hH,hz,q⟩:=h
 cases rx
 obtain ⟨u,rfl,ru⟩:=rv.one
 cases ru
 obtain ⟨z,its,n,r,hl,e⟩:=I.lstM hH
 rw [kg] at hl
 have at_:=Qc r (by lia)
 have cnt:∀{bs:List Bool} {its:List Value},Vals (bs.map V.bl) its→its.countP (fun y=>match y with | .bool k=>k == true | _=>false)=bs.countP id:=by
  intro bs
  induction bs with
  | nil=>intro its r;cases r;rfl
  | cons b bs ih=>
   intro its r
   cases r with
   | cons a t=>
    cases a
    rw [List.countP_cons,List.countP_cons,ih t]
    cases b <;> rfl
 refine call_meets F.slot_list_count ⟨_,e,rfl⟩ F.entry_list_count (F.args_list_count_2 _ _)
  (SeqAt.list_countAt l its.toArray n none #[] (.bool true) (fun y=>match y with | .bool k=>k == true | _=>false)) ⟨e,?_,?_⟩
 ·intro y hy
  obtain ⟨m,hm,rfl⟩:=Array.mem_iff_getElem.mp hy
  obtain ⟨k,e1,e2⟩:=at_ m hm
  rw [e2]
  exact SeqAt.EqAt.bool_bool _ _
 ·have:=cnt r
  refine ⟨.int ((bs.countP id:Nat):Int),H,I.tok _,⟨s.toks,?_⟩,q⟩
  show Value.int ((List.countP _ its:Nat):Int) s.toks=_
  rw [this]
def z0R:V→List V→Hp→VK→Prop:=fun x vs H Q=>∃(l:Addr) (ss:List Str) (z:Str) (j:Nat),x=.ref l∧vs=[.str z]∧H l=some (.lst (ss.map V.str))∧ss[j]?=some z∧(∀m,m < j→ss[m]?≠some z)∧ss.length≤1000∧Q (.int (j:Nat)) H
theorem J1:MtM X "list.index" z0R:=by
 intro pins s σ H x vs v us Q I rx rv h
 obtain ⟨l,ss,z0,j,rfl,rfl,hH,hj,hno,hz,q⟩:=h
 cases rx
 obtain ⟨u,rfl,t,rfl⟩:=rv.one
 obtain ⟨z,its,n,r,hl,e⟩:=I.lstM hH
 rw [kg] at hl
 have at_:∀(m:Nat) (hm:m < its.toArray.size),∃k tk,ss[m]?=some k∧its.toArray[m]=.str k tk:=fun m hm=>by
  have hm:m < its.length:=by simpa using hm
  have k1:m < ss.length:=by lia
  obtain ⟨u,e1,tk,r1⟩:=r.get (show (ss.map V.str)[m]?=some (.str ss[m]) by simp [k1])
  refine ⟨ss[m],tk,by simp [k1],?_⟩
  have:=kD hm
  rw [e1] at this
  rw [←r1]
  simpa using (kt this).symm
 have hjl:j < ss.length:=(kd.mp hj).1
 refine call_meets F.slot_list_index ⟨_,e,rfl⟩ F.entry_list_index (F.args_list_index_2 _ _)
  (SeqAt.list_indexAt l its.toArray n none #[] (.str z0 t) (fun y=>match y with | .str k _=>k == z0 | _=>false) j (by rw [kx];lia) (by lia) ?_ ?_) ⟨e,?_,?_⟩
 ·obtain ⟨k,tk,e1,e2⟩:=at_ j (by rw [kx];lia)
  rw [e2]
  rw [hj] at e1
  cases e1
  simp
 ·intro m hm hlt
  obtain ⟨k,tk,e1,e2⟩:=at_ m hm
  rw [e2]
  have:=hno m hlt
  rw [e1] at this
  simpa using fun z=>this (by rw [z])
 ·intro y hy
  obtain ⟨m,hm,rfl⟩:=Array.mem_iff_getElem.mp hy
  obtain ⟨k,tk,e1,e2⟩:=at_ m hm
  rw [e2]
  exact SeqAt.EqAt.str_str _ _ _ _
 ·exact ⟨.int (j:Nat),H,I.tok _,⟨_,rfl⟩,q⟩
end
end L2
set_option maxHeartbeats 8000000
namespace My
open PySem PySem.Spec PyProof.Rows L2
variable {P:Program} {w:World} {K:ko} {mg:Str→Option Value} {base:Heap}
structure Errs (K:ko) (mg:Str→Option Value) (CM c1 c2 c3 c4 c5 c6 c7 c8:Addr):Prop where
 rt:mg "RuntimeError"=none
 m:mg "MillError"=some (.ref CM)
 n1:mg "BadCode"=some (.ref c1)
 n2:mg "BadNames"=some (.ref c2)
 n3:mg "BadNumber"=some (.ref c3)
 n4:mg "Unsound"=some (.ref c4)
 n5:mg "BadOrder"=some (.ref c5)
 n6:mg "BadText"=some (.ref c6)
 n7:mg "BadUnits"=some (.ref c7)
 n8:mg "BadBytes"=some (.ref c8)
 cM:PySem.W.excIn K CM rtM "RuntimeError.__new__"=true
 e5:PySem.W.excIn K c5 rtM "RuntimeError.__new__"=true
 q5:excQ K c5 rtM "RuntimeError.__new__"=true
 u5:upIn K c5 CM=true
 o1:c1≠c5∧qg K c1=true∧upIn K c5 c1=false
 o2:c2≠c5∧qg K c2=true∧upIn K c5 c2=false
 o3:c3≠c5∧qg K c3=true∧upIn K c5 c3=false
 o4:c4≠c5∧qg K c4=true∧upIn K c5 c4=false
 o6:c6≠c5∧qg K c6=true∧upIn K c5 c6=false
 o7:c7≠c5∧qg K c7=true∧upIn K c5 c7=false
 o8:c8≠c5∧qg K c8=true∧upIn K c5 c8=false
theorem z1q:bootBuiltins "RuntimeError"=some (.type "RuntimeError"):=by trivial
section
variable {CM c1 c2 c3 c4 c5 c6 c7 c8:Addr}
def z0m (c5:Addr):Sp:=fun vs H Q _=>∃x,vs=[.ref x]∧H x=some (Qv x (.ref c5))∧∀H',Same H H'→Q (.int 4) H'
theorem sc24:zl ["_law_caught","_law_kinds"] ["_law_caught"] (za (top 24)):=fsM
theorem z1d (D:zy K mg "_law_word" (top 24)) (G:Glo mg) (R:Errs K mg CM c1 c2 c3 c4 c5 c6 c7 c8):FN P w K mg base 1 "_law_word" ["_law_caught"] (z0m c5):=by
 refine FN.o D sc24 fun f cdv A outer s H vs Q E hr h=>?_
 obtain ⟨x,rfl,hx,q⟩:=h
 refine ⟨_,z8 (qj (qm (qE (zg zD rfl G.isinstance ze (z3 (pv 0) (z3 (jZ "RuntimeError" rfl R.rt z1q) z5))))) QP zE)
  (z8 (zk (i:=1) sc24.nd rfl (Or.inl rfl) (zH (z3 (zg zD rfl G.isinstance ze (z3 (pv 0) (z3 (zZ rfl R.n1 (v:=.ref c1) rfl) z5)))
   (z3 (zg zD rfl G.isinstance ze (z3 (pv 0) (z3 (zZ rfl R.n2 (v:=.ref c2) rfl) z5))) (z3 (zg zD rfl G.isinstance ze (z3 (pv 0) (z3 (zZ rfl R.n3 (v:=.ref c3) rfl) z5))) z5)))))
  (z8 (zk (i:=1) sc24.nd rfl (Or.inl rfl) (zr Z3 (pv 1) (zH (z3 (zg zD rfl G.isinstance ze (z3 (pv 0) (z3 (zZ rfl R.n4 (v:=.ref c4) rfl) z5)))
   (z3 (zg zD rfl G.isinstance ze (z3 (pv 0) (z3 (zZ rfl R.n5 (v:=.ref c5) rfl) z5))) (z3 (zg zD rfl G.isinstance ze (z3 (pv 0) (z3 (zZ rfl R.n6 (v:=.ref c6) rfl) z5))) z5))))))
  (z8 (zk (i:=1) sc24.nd rfl (Or.inl rfl) (zr Z3 (pv 1) (zH (z3 (zg zD rfl G.isinstance ze (z3 (pv 0) (z3 (zZ rfl R.n7 (v:=.ref c7) rfl) z5)))
   (z3 (zg zD rfl G.isinstance ze (z3 (pv 0) (z3 (zZ rfl R.n8 (v:=.ref c8) rfl) z5))) z5)))))
  (zi (zo (ZX (zt z2F (Z0 PySem.F.plainAttrs_list PySem.F.slot_list_count PySem.F.type_list_count J4 (pv 1) (z3 qI z5)) zd (zA _))
   (Z0 PySem.F.plainAttrs_list PySem.F.slot_list_index PySem.F.type_list_index J3 (pv 1) (z3 qI z5)) (z0X Qw zd))))))),?_⟩
 refine ⟨_,rfl,x,c5,.ty "RuntimeError",true,rfl,hx,R.q5,.inl ⟨rfl,rfl⟩,_,rfl,iteF ?_⟩
 refine ⟨_,rfl,x,c5,.ref c1,false,rfl,hx,R.q5,.inr ⟨c1,rfl,.inr ⟨R.o1.1,R.o1.2.1,R.o1.2.2,rfl⟩⟩,⟨_,rfl,x,c5,.ref c2,false,rfl,hx,R.q5,.inr ⟨c2,rfl,.inr ⟨R.o2.1,R.o2.2.1,R.o2.2.2,rfl⟩⟩,⟨_,rfl,x,c5,.ref c3,false,rfl,hx,R.q5,.inr ⟨c3,rfl,.inr ⟨R.o3.1,R.o3.2.1,R.o3.2.2,rfl⟩⟩,by show 3≤sizeLine;decide,fun p hp=>?_⟩⟩⟩
 have s1:=zb hp (.lst [.bl false,.bl false,.bl false])
 have hx1:=s1 _ _ hx
 have hp1:upd H p (.lst [.bl false,.bl false,.bl false]) p=some (.lst [.bl false,.bl false,.bl false]):=z4
 generalize upd H p (.lst [.bl false,.bl false,.bl false])=H1 at *
 refine ⟨_,rfl,⟨_,rfl,x,c5,.ref c4,false,rfl,hx1,R.q5,.inr ⟨c4,rfl,.inr ⟨R.o4.1,R.o4.2.1,R.o4.2.2,rfl⟩⟩,⟨_,rfl,x,c5,.ref c5,true,rfl,hx1,R.q5,.inr ⟨c5,rfl,.inl ⟨rfl,rfl⟩⟩,⟨_,rfl,x,c5,.ref c6,false,rfl,hx1,R.q5,.inr ⟨c6,rfl,.inr ⟨R.o6.1,R.o6.2.1,R.o6.2.2,rfl⟩⟩,by show 3≤sizeLine;decide,fun p2 hp2=>?_⟩⟩⟩⟩
 have s2:=zb hp2 (.lst [.bl false,.bl true,.bl false])
 refine ⟨p,p2,_,_,rfl,rfl,s2 _ _ hp1,z4,by show 6≤sizeLine;decide,fun p3 hp3=>?_⟩
 have s3:=s2.trans (zb hp3 (.lst ([.bl false,.bl false,.bl false]++[.bl false,.bl true,.bl false])))
 have hx3:=s3 _ _ hx1
 have hp3':upd (upd H1 p2 (.lst [.bl false,.bl true,.bl false])) p3 (.lst ([.bl false,.bl false,.bl false]++[.bl false,.bl true,.bl false])) p3=some (.lst [.bl false,.bl false,.bl false,.bl false,.bl true,.bl false]):=z4
 have s13:=s1.trans s3
 generalize upd (upd H1 p2 (.lst [.bl false,.bl true,.bl false])) p3 (.lst ([.bl false,.bl false,.bl false]++[.bl false,.bl true,.bl false]))=H3 at *
 refine ⟨_,rfl,⟨_,rfl,x,c5,.ref c7,false,rfl,hx3,R.q5,.inr ⟨c7,rfl,.inr ⟨R.o7.1,R.o7.2.1,R.o7.2.2,rfl⟩⟩,⟨_,rfl,x,c5,.ref c8,false,rfl,hx3,R.q5,.inr ⟨c8,rfl,.inr ⟨R.o8.1,R.o8.2.1,R.o8.2.2,rfl⟩⟩,by show 2≤sizeLine;decide,fun p4 hp4=>?_⟩⟩⟩
 have s4:=zb hp4 (.lst [.bl false,.bl false])
 refine ⟨p3,p4,_,_,rfl,rfl,s4 _ _ hp3',z4,by show 8≤sizeLine;decide,fun p5 hp5=>?_⟩
 have s5:=s4.trans (zb hp5 (.lst ([.bl false,.bl false,.bl false,.bl false,.bl true,.bl false]++[.bl false,.bl false])))
 have hp5':upd (upd H3 p4 (.lst [.bl false,.bl false])) p5 (.lst ([.bl false,.bl false,.bl false,.bl false,.bl true,.bl false]++[.bl false,.bl false])) p5=some (.lst (([false,false,false,false,true,false,false,false]:List Bool).map V.bl)):=z4
 have s15:=s13.trans s5
 generalize upd (upd H3 p4 (.lst [.bl false,.bl false])) p5 (.lst ([.bl false,.bl false,.bl false,.bl false,.bl true,.bl false]++[.bl false,.bl false]))=H5 at *
 refine ⟨_,rfl,.inl ⟨rfl,_,SqL.of hp5'⟩,p5,_,rfl,rfl,hp5',by decide,rfl,true,rfl,iteT ?_⟩
 refine ⟨_,rfl,.inl ⟨rfl,_,SqL.of hp5'⟩,p5,_,4,rfl,rfl,hp5',rfl,fun m hm=>?_,by decide,q _ s15⟩
 match m,hm with
 | 0,_=>rfl
 | 1,_=>rfl
 | 2,_=>rfl
 | 3,_=>rfl
end
section
variable {CM c1 c2 c3 c4 c5 c6 c7 c8:Addr}
noncomputable def jO:List Str:=["code","names","number","unsound","order","text","units","bytes"]
def z1I:Sp:=fun vs H Q _=>vs=[.str "order"]∧∀t H',Same H H'→H' t=some (.tup [.str "refused",.int 4])→Q (.ref t) H'
theorem sc25:zl ["_law_word_here","_law_words"] ["_law_word_here"] (za (top 25)):=fsM
theorem jN:jO[4]?=some ("order":Str)∧∀m,m < 4→jO[m]?≠some ("order":Str):=by
 refine ⟨by trivial,fun m hm=>?_⟩
 have all:∀m∈[0,1,2,3],jO[m]?≠some ("order":Str):=by trivial
 exact all m (by simp;lia)
theorem z1g (D:zy K mg "_law_refused" (top 25)):FN P w K mg base 1 "_law_refused" ["_law_word_here"] z1I:=by
 refine FN.o D sc25 fun f cdv A outer s H vs Q E hr h=>?_
 obtain ⟨rfl,q⟩:=h
 refine ⟨_,z8 (zk (i:=1) sc25.nd rfl (Or.inl rfl) (zH (z3 zS (z3 zS (z3 zS (z3 zS (z3 zS (z3 zS (z3 zS (z3 zS z5))))))))))
  (zi (zo (ZW (z3 zS (z3 (Z0 PySem.F.plainAttrs_list PySem.F.slot_list_index PySem.F.type_list_index J1 (pv 1) (z3 (pv 0) z5)) z5))))),?_⟩
 refine ⟨by show 8≤sizeLine;decide,fun p hp=>?_⟩
 have s1:=zb hp (.lst [.str "code",.str "names",.str "number",.str "unsound",.str "order",.str "text",.str "units",.str "bytes"])
 have hp1:upd H p (.lst [.str "code",.str "names",.str "number",.str "unsound",.str "order",.str "text",.str "units",.str "bytes"]) p=some (.lst (jO.map V.str)):=z4
 refine ⟨_,rfl,.inl ⟨rfl,_,SqL.of hp1⟩,_,rfl,p,jO,"order",4,rfl,rfl,hp1,jN.1,jN.2,by decide,by show 2≤sizeLine;decide,fun t ht=>?_⟩
 exact q t _ (s1.trans (zb ht _)) z4
def z1J (CB:Addr):Sp:=fun vs H Q E=>∃v x,vs=[v,x]∧QE CB [x] H Q E
theorem sc27:zl ["_law_way","_law_order"] ["_law_way","_law_order"] (za (top 27)):=fsM
theorem z2d {CB:Addr} (D:zy K mg "_law_one" (top 27)) (FF:FNX P w K mg base 3 "fewest_swaps" ["order"] (QE CB)):FNX P w K mg base 4 "_law_one" ["_law_way","_law_order"] (z1J CB):=by
 refine FNX.of D sc27 (fun _ _ _ _ _ _=>zU2 fun _ _=>rfl) (fun vs H Q E h=>by obtain ⟨v,x,rfl,_⟩:=h;rfl) (fun f cdv A outer s H vs Q E hr h=>?_)
 obtain ⟨v,x,rfl,h⟩:=h
 exact ⟨_,zi (zo (z1U FF hr je rfl rfl (z3 (pv 1) z5))),_,rfl,h⟩
def z0o:Sp:=fun vs H Q _=>∃v x,vs=[v,x]∧BadO H x∧∀t H',Same H H'→H' t=some (.tup [.str "refused",.int 4])→Q (.ref t) H'
noncomputable def N26:List Str:=["_law_way","_law_some","_law_caught","_law_found","e"]
theorem sc26:zl N26 ["_law_way","_law_some"] (za (top 26)):=fsM
theorem z1f (D:zy K mg "_law_told" (top 26)) (R:Errs K mg CM c1 c2 c3 c4 c5 c6 c7 c8) (FO:FNX P w K mg base 4 "_law_one" ["_law_way","_law_order"] (z1J c5)) (FW:FN P w K mg base 1 "_law_word" ["_law_caught"] (z0m c5)):FN P w K mg base 5 "_law_told" ["_law_way","_law_some"] z0o:=by
 refine FN.o D sc26 fun f cdv A outer s H vs Q E hr h=>?_
 obtain ⟨v,x,rfl,hx,q⟩:=h
 obtain ⟨f1,fd1,a1,b1,b2,d1⟩:=FO
 refine ⟨_,z8 (zk (i:=2) sc26.nd rfl (Or.inl rfl) jg)
  (z8 (zk (i:=3) sc26.nd rfl (Or.inl rfl) jg)
  (z8 (JN (i:=3) (j:=4) (ts:=fun _=>_) d1 hr rfl a1 b1 b2 (z3 (pv 0) (z3 (pv 1) z5)) sc26.nd rfl (Or.inl rfl) rfl rfl rfl R.m R.cM rfl rfl (fun _=>zi (zk (i:=2) sc26.nd rfl (Or.inl rfl) (pv 4))))
  (z8 (qj (zt z1Y (pv 2) jg (zA _)) (zi (zo (ZW (z3 zS (z3 (pv 3) z5))))) zE)
  (zi (zo (ZW (z3 zS (z3 (zN FW (hr.mono (by decide)) rfl (z3 (pv 2) z5)) z5)))))))),?_⟩
 refine ⟨_,rfl,_,rfl,v,x,rfl,.inr ⟨x,rfl,hx,fun H1 s1=>?_⟩⟩
 refine ⟨c5,rfl,R.e5,R.u5,fun y hy=>?_⟩
 refine ⟨_,rfl,?_⟩
 have s2:=zb hy (Qv y (.ref c5))
 refine ⟨_,rfl,rfl,_,rfl,iteF ?_⟩
 refine ⟨_,rfl,y,rfl,z4,fun H3 s3=>?_⟩
 refine ⟨by show 2≤sizeLine;decide,fun t ht=>?_⟩
 exact q t _ (((s1.trans s2).trans s3).trans (zb ht _)) z4
end
noncomputable def fa:Nat→(Nat→Nat)→Nat
 | 0,_=>0
 | n+1,p=>fa n p+bt (p n=n)
theorem jH:∀(n:Nat) (p q:Nat→Nat),(∀i,i < n→p i=q i)→fa n p=fa n q
 | 0,_,_,_=>rfl
 | n+1,p,q,h=>by
  unfold fa
  rw [jH n p q fun i hi=>h i (by lia),h n (by lia)]
theorem z0F:∀(n z:Nat) (p q:Nat→Nat),(∀i,i < n→i≠z→p i=q i)→fa n q≤fa n p+1
 | 0,_,_,_,_=>by show 0≤0+1;lia
 | n+1,z,p,q,h=>by
  unfold fa
  by_cases e:n=z
  ·rw [jH n q p fun i hi=>(h i (by lia) (by lia)).symm]
   have:=Jy (q n=n)
   lia
  ·rw [h n (by lia) e]
   have:=z0F n z p q fun i hi hz=>h i (by lia) hz
   lia
theorem z0J:∀(n:Nat) (p r:Nat→Nat),Bij n p r→2 * cyc n p≤n+fa n p
 | 0,_,_,_=>kc _
 | n+1,p,r,h=>by
  have ih:=z0J n _ _ (qB h)
  show 2 * (cyc n (ctr n p)+if p n=n then 1 else 0)≤n+1+(fa n p+bt (p n=n))
  by_cases e:p n=n
  ·rw [kr e,bt_t e]
   have:fa n (ctr n p)=fa n p:=jH n _ _ fun i hi=>zI fun z=>by
    have:=h.inj (i:=i) (j:=n) (by lia) (by lia) (by rw [z,e])
    lia
   lia
  ·rw [kq e,bt_f e]
   have:fa n (ctr n p)≤fa n p+1:=z0F n (r n) p (ctr n p) fun i hi hz=>(zI fun y=>hz (by
    have:=h.rp i (by lia)
    rw [y] at this
    exact this.symm)).symm
   lia
theorem z2i:∀(n:Nat) (p:Nat→Nat),fa n p≤fx n p+1
 | 0,_=>by show 0≤0+1;lia
 | n+1,p=>by
  unfold fa fx
  by_cases z:n=0
  ·subst z
   have:=Jy (p 0=0)
   show 0+_≤0+_+1
   lia
  ·have:=z2i n p
   by_cases e:p n=n
   ·rw [bt_t e,bt_t ⟨z,e⟩];lia
   ·rw [bt_f e,bt_f fun y=>e y.2];lia
theorem Zg {n:Nat} {p r:Nat→Nat} (h:Bij n p r):2 * cost n p≤3 * (n:Int):=by
 have a:=z0J n p r h
 have b:=z2i n p
 unfold cost
 lia
theorem z16 {l:List Nat} {i:Nat} (h:i < l.length):l[i]?=some (lf l i):=by
 rw [qk h 0,List.getD_eq_getElem?_getD,kD h]
 rfl
theorem qt {n:Nat} {os:List Nat} (h:os.Perm (List.range n)):os.length=n∧Bij n (lf os) (fun i=>os.idxOf i):=by
 have hl:os.length=n:=by rw [h.length_eq,List.length_range]
 have nd:os.Nodup:=h.nodup_iff.mpr List.nodup_range
 have mem:∀i,i < n→i∈os:=fun i hi=>h.mem_iff.mpr (List.mem_range.mpr hi)
 refine ⟨hl,fun i hi=>?_,fun i hi=>?_,fun i hi=>?_,fun i hi=>?_⟩
 ·have:=kz (z16 (l:=os) (i:=i) (by lia))
  exact List.mem_range.mp (h.mem_iff.mp this)
 ·have:=List.idxOf_lt_length_of_mem (mem i hi)
  lia
 ·refine Jg os i (lf os i) (z16 (by lia)) fun j hj e=>?_
  have p:=List.pairwise_iff_getElem.mp nd j i (by lia) (by lia) hj
  have e1:=z16 (l:=os) (i:=i) (by lia)
  rw [←e1] at e
  rw [kD (by lia),kD (by lia)] at e
  exact p (kt e)
 ·have hi':=List.idxOf_lt_length_of_mem (mem i hi)
  rw [qk hi' 0,List.getD_eq_getElem?_getD,kD hi',List.getElem_idxOf hi']
  rfl
theorem jt {n:Nat} {os:List Nat} (hn:1≤n) (h:os.Perm (List.range n)):∃ks,WayC os (List.range n) ks∧(ks.length:Int)=cost n (lf os)∧Nums n ks∧zC (List.range n) ks=os:=by
 obtain ⟨hl,O⟩:=qt h
 have R:Bij n (lf (List.range n)) id:=by
  rw [show lf (List.range n)=id from funext (qM n)]
  exact ⟨fun _ h=>h,fun _ h=>h,fun _ _=>rfl,fun _ _=>rfl⟩
 obtain ⟨ks,w1,w2,w3,w4⟩:=z1w hn hl O _ (List.range n) id (List.length_range ..) R (kc _)
 refine ⟨ks,z2s hn hl O w1 id (List.length_range ..) R,?_,w3,w4⟩
 rw [w2,j6 O]
 exact zX fun i _=>by rw [qM]
noncomputable def it (p:Nat→Nat):Nat→Nat→Nat
 | 0,i=>i
 | m+1,i=>it p m (p i)
def Rch (p:Nat→Nat) (i j:Nat):Prop:=∃m,it p m i=j
theorem jm (p:Nat→Nat):∀(a b i:Nat),it p (a+b) i=it p b (it p a i)
 | 0,b,i=>by rw [Nat.zero_add];rfl
 | a+1,b,i=>by rw [Nat.succ_add];exact jm p a b (p i)
theorem z19 (p:Nat→Nat) (m i:Nat):it p (m+1) i=p (it p m i):=by rw [jm];rfl
theorem JZ {n:Nat} {p:Nat→Nat} (h:∀i,i < n→p i < n):∀(m i:Nat),i < n→it p m i < n
 | 0,_,hi=>hi
 | m+1,i,hi=>JZ h m (p i) (h i hi)
theorem Js {n:Nat} {p r:Nat→Nat} (h:Bij (n+1) p r) {i:Nat} (hi:i < n):ctr n p i < n:=(qB h).lt i hi
theorem z0s {n:Nat} {p r:Nat→Nat} (h:Bij (n+1) p r):∀(m i:Nat),i < n→∃m',it p m' i=it (ctr n p) m i
 | 0,i,_=>⟨0,rfl⟩
 | m+1,i,hi=>by
  obtain ⟨m',e⟩:=z0s h m (ctr n p i) (Js h hi)
  by_cases z:p i=n
  ·refine ⟨m'+2,?_⟩
   show it p m' (p (p i))=it (ctr n p) m (ctr n p i)
   rw [←e,qp z,z]
  ·refine ⟨m'+1,?_⟩
   show it p m' (p i)=it (ctr n p) m (ctr n p i)
   rw [←e,zI z]
theorem QJ {n:Nat} {p r:Nat→Nat} (h:Bij (n+1) p r):∀(k m i:Nat),m≤k→i < n→it p m i < n→Rch (ctr n p) i (it p m i)
 | k,0,i,_,_,_=>⟨0,rfl⟩
 | 0,m+1,i,hk,_,_=>absurd hk (by lia)
 | k+1,m+1,i,hk,hi,hj=>by
  by_cases z:p i=n
  ·cases m with
   | zero=>exact absurd z (Nat.ne_of_lt hj)
   | succ m=>
    have e:it p (m+1+1) i=it p m (ctr n p i):=by
     show it p m (p (p i))=_
     rw [qp z,z]
    rw [e] at hj ⊢
    obtain ⟨a,q⟩:=QJ h k m (ctr n p i) (by lia) (Js h hi) hj
    exact ⟨a+1,q⟩
  ·have e:it p (m+1) i=it p m (ctr n p i):=by
    show it p m (p i)=_
    rw [zI z]
   rw [e] at hj ⊢
   obtain ⟨a,q⟩:=QJ h k m (ctr n p i) (by lia) (Js h hi) hj
   exact ⟨a+1,q⟩
theorem QL {n:Nat} {p r:Nat→Nat} (h:Bij (n+1) p r) {i j:Nat} (hi:i < n) (hj:j < n):Rch (ctr n p) i j↔Rch p i j:=by
 refine ⟨fun ⟨m,e⟩=>?_,fun ⟨m,e⟩=>?_⟩
 ·obtain ⟨m',q⟩:=z0s h m i hi
  exact ⟨m',q.trans e⟩
 ·rw [←e] at hj ⊢
  exact QJ h m m i (kc _) hi hj
def Lst (p:Nat→Nat) (k:Nat):Prop:=∀i,i < k→¬Rch p i k
theorem z15 {n:Nat} {p r:Nat→Nat} (h:Bij (n+1) p r) {k:Nat} (hk:k < n):Lst (ctr n p) k↔Lst p k:=
 ⟨fun q i hi z=>q i hi ((QL h (by lia) hk).mpr z),fun q i hi z=>q i hi ((QL h (by lia) hk).mp z)⟩
theorem QK {n:Nat} {p r:Nat→Nat} (h:Bij n p r) {k:Nat} (hk:k < n) (e:p k=k):∀(m i:Nat),i < n→it p m i=k→i=k
 | 0,i,_,z=>z
 | m+1,i,hi,z=>by
  have:=QK h hk e m (p i) (h.lt i hi) z
  exact h.inj hi hk (this.trans e.symm)
theorem J6 {n:Nat} {p r:Nat→Nat} (h:Bij n p r) {k:Nat} (hk:k < n) (e:p k=k):Lst p k:=fun i hi ⟨m,z⟩=>by
 have:=QK h hk e m i (by lia) z
 lia
theorem J5 {n:Nat} {p r:Nat→Nat} (h:Bij (n+1) p r):Lst p n↔p n=n:=by
 refine ⟨fun q=>?_,fun e=>J6 h (kR n) e⟩
 have hr:=h.lt' n (kR n)
 have hp:p (r n)=n:=h.pr n (kR n)
 by_cases z:r n=n
 ·rw [z] at hp;exact hp
 ·exact absurd ⟨1,hp⟩ (q (r n) (by lia))
open Classical in
noncomputable def mins:Nat→(Nat→Nat)→Nat
 | 0,_=>0
 | n+1,p=>mins n p+bt (Lst p n)
open Classical in
theorem jl:∀(n:Nat) (p q:Nat→Nat),(∀k,k < n→(Lst p k↔Lst q k))→mins n p=mins n q
 | 0,_,_,_=>rfl
 | n+1,p,q,h=>by
  show mins n p+bt (Lst p n)=mins n q+bt (Lst q n)
  rw [jl n p q fun k hk=>h k (by lia)]
  have:=h n (kR n)
  by_cases z:Lst p n
  ·rw [bt_t z,bt_t (this.mp z)]
  ·rw [bt_f z,bt_f fun y=>z (this.mpr y)]
open Classical in
theorem Q1:∀(n:Nat) (p r:Nat→Nat),Bij n p r→mins n p=cyc n p
 | 0,_,_,_=>rfl
 | n+1,p,r,h=>by
  show mins n p+bt (Lst p n)=_
  rw [←jl n (ctr n p) p fun k hk=>z15 h hk,Q1 n (ctr n p) (ctr n r) (qB h)]
  by_cases z:p n=n
  ·rw [bt_t ((J5 h).mpr z)]
   show _=cyc n (ctr n p)+if p n=n then 1 else 0
   rw [kr z]
  ·rw [bt_f fun y=>z ((J5 h).mp y)]
   show _=cyc n (ctr n p)+if p n=n then 1 else 0
   rw [kq z]
open Classical in
noncomputable def rgs:Nat→(Nat→Nat)→Nat
 | 0,_=>0
 | n+1,p=>rgs n p+bt (Lst p n∧n≠0∧p n≠n)
open Classical in
theorem Q0 {m:Nat} {p r:Nat→Nat} (h:Bij m p r):∀(n:Nat),n+1≤m→mins (n+1) p=1+fx (n+1) p+rgs (n+1) p
 | 0,hm=>by
  have l0:Lst p 0:=fun i hi=>absurd hi (by lia)
  show 0+bt (Lst p 0)=1+fx 1 p+(0+bt (Lst p 0∧0≠0∧p 0≠0))
  rw [bt_t l0,bt_f (by simp)]
  have:fx 1 p=0:=by simp [fx,bt]
  lia
 | n+1,hm=>by
  show mins (n+1) p+bt (Lst p (n+1))=1+fx (n+1+1) p+(rgs (n+1) p+bt (Lst p (n+1)∧n+1≠0∧p (n+1)≠n+1))
  rw [Q0 h n (by lia)]
  have hfx:fx (n+1+1) p=fx (n+1) p+bt (p (n+1)=n+1):=by
   conv=>lhs;unfold fx
   simp [bt]
  rw [hfx]
  by_cases z:p (n+1)=n+1
  ·rw [bt_t z,bt_t (J6 h (by lia) z),bt_f (fun y=>y.2.2 z)]
   lia
  ·rw [bt_f z]
   by_cases y:Lst p (n+1)
   ·rw [bt_t y,bt_t ⟨y,by lia,z⟩]
    lia
   ·rw [bt_f y,bt_f fun x=>y x.1]
    lia
theorem z0c {n:Nat} {p r:Nat→Nat} (hn:1≤n) (h:Bij n p r):cost n p=(n:Int) - 1 - fx n p+rgs n p:=by
 obtain ⟨m,rfl⟩:∃m,n=m+1:=⟨n - 1,by lia⟩
 have a:=Q1 (m+1) p r h
 have b:=Q0 h m (kc _)
 unfold cost
 lia
section
theorem sc22:zl ["_law_thing"] ["_law_thing"] (za (top 22)):=fsM
theorem z05 (D:zy K mg "_law_whole" (top 22)) (G:Glo mg):FN P w K mg base 1 "_law_whole" ["_law_thing"] (sp1 qJ):=by
 refine FN.o D sc22 fun f cdv A outer s H vs Q E hr h=>?_
 obtain ⟨x,rfl,hx,q⟩:=h
 refine ⟨_,zi (zo (jh (zg zG rfl G.isinstance ze (z3 (pv 0) (z3 (jZ "int" rfl G.int jM) z5)))
  (jf (z0v (zg zG rfl G.isinstance ze (z3 (pv 0) (z3 (jZ "bool" rfl G.bool Zk) z5))))))),?_⟩
 obtain ⟨t1,ty1,k1⟩:=Q6 (K:=K) (H:=H) hx
 obtain ⟨t2,ty2,k2⟩:=Za (K:=K) (H:=H) hx
 refine ⟨_,rfl,_,"int",t1,_,rfl,ty1,k1,_,rfl,?_⟩
 cases hx with
 | non=>exact q
 | bl b=>exact ⟨_,rfl,_,"bool",t2,_,rfl,ty2,k2,_,rfl,q⟩
 | int i=>exact ⟨_,rfl,_,"bool",t2,_,rfl,ty2,k2,_,rfl,q⟩
 | str s _=>exact q
def ZO:Sp:=fun vs H Q _=>∃(l:Addr) (ks:List Nat),vs=[.ref l]∧H l=some (.lst (nv ks))∧ks.length≤1000∧∀H',Same H H'→Q (.bl true) H'
theorem sc23:zl ["_law_thing"] ["_law_thing"] (za (top 23)):=fsM
theorem ndO:(["_law_one_here"]:List Str).Nodup:=by decide
theorem Jj (D:zy K mg "_law_wholes" (top 23)) (G:Glo mg) (FW:FN P w K mg base 1 "_law_whole" ["_law_thing"] (sp1 qJ)):FN P w K mg base 2 "_law_wholes" ["_law_thing"] ZO:=by
 refine FN.o D sc23 fun f cdv A outer s H vs Q E hr h=>?_
 obtain ⟨l,ks,rfl,hl,hn,q⟩:=h
 have hu:(A.deeper (envOfC "_law_wholes" (za (top 23)) s.heap.objs.size f cdv)).units < cLine:=hr.units0
 refine ⟨_,zi (zo (jh (zg zG rfl G.isinstance ze (z3 (pv 0) (z3 (jZ "list" rfl G.list zP) z5)))
  (jf (qy (z0z hu) (qu (N:=["_law_one_here"]) (nt:=1) (ix:=[]) (cl:=[]) rfl (qc.plain (by trivial) (by trivial) rfl (by trivial) rfl) (qx (pv 0))
    (fun _ _ _ _=>zK (i:=0) ndO rfl (Or.inl rfl)) (fun _ _ _ _=>jy (qm (qE (zN FW hr rfl (z3 (pv 0) z5))))) (fun _ _ _ _=>pv 0)) (zH z5) (zA _))))),?_⟩
 refine ⟨_,rfl,_,"list",_,true,rfl,.lst hl,rfl,_,rfl,iteT ?_⟩
 refine ⟨_,rfl,l,rfl,⟨_,SqL.of hl⟩,fun bl hbl=>zY (K:=K) (a:=l) (xs:=nv ks) (fun i ys σ H2=>(∃a:Option V,σ=[a])∧ys=[]∧Same H H2∧H2 bl=some (.lst ys))
  ⟨⟨none,rfl⟩,rfl,zb hbl _,z4⟩ (fun i ys σ H2 _ ⟨_,_,s2,_⟩=>s2.seq (SqL.of hl)) ?_ ?_⟩
 ·rintro i x ys σ H2 hi ⟨⟨b,rfl⟩,rfl,s2,hp2⟩
  have hil:i < ks.length:=by have:=(kd.mp hi).1;rw [zh] at this;exact this
  rw [qf hil] at hi
  cases hi
  refine zF ?_
  refine ⟨_,rfl,_,rfl,.int _,_,rfl,iteF ⟨ks.length - (i+1),by rw [zh];lia,by rw [zh],by rw [zh];lia,⟨_,rfl⟩,rfl,s2,hp2⟩⟩
 ·rintro ys σ H2 ⟨_,rfl,s2,hp2⟩
  refine ⟨by show 0≤sizeLine;decide,fun e he=>?_⟩
  have s3:=zb he (.lst [])
  refine ⟨bl,e,[],rfl,rfl,SqL.of (s3 _ _ hp2),SqL.of z4,?_⟩
  rw [kf rfl]
  exact q _ (s2.trans s3)
def QC:Sp:=fun vs H Q _=>∃(l:Addr) (ls:List Nat) (k:Nat),vs=[.ref l,.int (k:Nat)]∧H l=some (.lst (nv ls))∧2≤k∧k≤ls.length∧Q (.ref l) (upd H l (.lst (nv (exch ls (k - 1)))))
theorem sc30:zl ["_law_some","_law_n","_law_top"] ["_law_some","_law_n"] (za (top 30)):=fsM
theorem z06 (D:zy K mg "_law_swap" (top 30)):FN P w K mg base 1 "_law_swap" ["_law_some","_law_n"] QC:=by
 refine FN.o D sc30 fun f cdv A outer s H vs Q E hr h=>?_
 obtain ⟨l,ls,k,rfl,hl,h2,hk,q⟩:=h
 refine ⟨_,z8 (zk (i:=2) sc30.nd rfl (Or.inl rfl) (zL zp (pv 0) zd (fun _ _=>rfl)))
  (z8 (qR (zL zp (pv 0) (zr ji (pv 1) zd) (fun _ _=>rfl)) (qF (pv 0) zd zQ))
  (z8 (qR (pv 2) (qF (pv 0) (zr ji (pv 1) zd) zQ))
  (zi (zo (pv 0))))),?_⟩
 have ek:((k:Nat):Int) - 1=((k - 1:Nat):Int):=by lia
 refine ⟨_,rfl,l,_,_,_,rfl,rfl,SqL.of hl,zq (qf (i:=0) (by lia)),?_⟩
 refine ⟨_,rfl,_,rfl,_,_,rfl,rfl,l,_,_,_,rfl,rfl,SqL.of hl,by rw [ek];exact zq (qf (i:=k - 1) (by lia)),?_⟩
 refine ⟨_,rfl,l,_,_,0,rfl,rfl,hl,by rw [zh];exact qA (j:=0) (by lia),?_⟩
 rw [jj]
 refine ⟨_,rfl,_,rfl,_,rfl,_,_,rfl,rfl,l,_,_,k - 1,rfl,rfl,z4,by rw [ek,zh,List.length_set];exact qA (by lia),?_⟩
 rw [jj,Zu]
 exact ⟨_,rfl,q⟩
end
theorem jp:∀(ks l:List Nat) (k:Nat),zC l (ks++[k])=exch (zC l ks) (k - 1)
 | [],l,k=>rfl
 | x :: ks,l,k=>jp ks (exch l (x - 1)) k
section
def QD:Sp:=fun vs H Q _=>∃(o m:Addr) (os ks:List Nat),vs=[.ref o,.ref m]∧H o=some (.lst (nv os))∧os.length≤1000∧H m=some (.lst (nv ks))∧Nums os.length ks∧∀d H',Same H H'→H' d=some (.lst (nv (zC (List.range os.length) ks)))→Q (.ref d) H'
noncomputable def N28:List Str:=["_law_order","_law_many","_law_now","_law_n","_law_top"]
theorem sc28:zl N28 ["_law_order","_law_many"] (za (top 28)):=fsM
theorem z07 (D:zy K mg "_law_moved" (top 28)) (G:Glo mg):FN P w K mg base 1 "_law_moved" ["_law_order","_law_many"] QD:=by
 refine FN.o D sc28 fun f cdv A outer s H vs Q E hr h=>?_
 obtain ⟨o,m,os,ks,rfl,ho,hn,hm,hk,q⟩:=h
 refine ⟨_,z8 (zk (i:=2) sc28.nd rfl (Or.inl rfl) (zU rfl rfl G.list rfl G.range (z3 (zg zj rfl G.len zm (z3 (pv 0) z5)) z5)))
  (z8 (jW PassesOwn.never rfl (qx (pv 1)) (zK (i:=3) sc28.nd rfl (Or.inl rfl))
   (z8 (zk (i:=4) sc28.nd rfl (Or.inl rfl) (zL zp (pv 2) zd (fun _ _=>rfl)))
   (z8 (qR (zL zp (pv 2) (zr ji (pv 3) zd) (fun _ _=>rfl)) (qF (pv 2) zd zQ))
   (zi (qR (pv 4) (qF (pv 2) (zr ji (pv 3) zd) zQ))))))
  (zi (zo (pv 2)))),?_⟩
 refine ⟨_,rfl,o,_,rfl,.inl (SqL.of ho),os.length,by rw [zh],hn,fun d hd=>?_⟩
 have e0:upd H d (.lst (((List.range os.length).map fun i:Nat=>(i:Int)).map V.int)) d=some (.lst (nv (List.range os.length))):=z4
 have s1:=zb hd (.lst (((List.range os.length).map fun i:Nat=>(i:Int)).map V.int))
 generalize upd H d (.lst (((List.range os.length).map fun i:Nat=>(i:Int)).map V.int))=H1 at *
 have ndm:d≠m:=fun z=>by rw [z,hm] at hd;cases hd
 refine ⟨_,rfl,m,rfl,⟨_,SqL.of (s1 _ _ hm)⟩,z03 (K:=K) (a:=m) (xs:=nv ks) (fun i σ H2=>∃a b:Option V,σ=[some (.ref o),some (.ref m),some (.ref d),a,b]∧Same H H2∧H2 d=some (.lst (nv (zC (List.range os.length) (ks.take i)))))
  ⟨none,none,rfl,s1,e0⟩ (fun i σ H2 _ ⟨_,_,_,s2,_⟩=>SqL.of (s2 _ _ hm)) ?_ ?_⟩
 ·rintro i x σ H2 hi ⟨a,b,rfl,s2,hd2⟩
  have hil:i < ks.length:=by have:=(kd.mp hi).1;rw [zh] at this;exact this
  rw [qf hil] at hi
  cases hi
  obtain ⟨k,ek⟩:∃k,ks[i]?=some k:=⟨ks[i],kD hil⟩
  have egd:ks.getD i 0=k:=by rw [List.getD_eq_getElem?_getD,ek];rfl
  have hnum:=hk k (kz ek)
  have ll:(zC (List.range os.length) (ks.take i)).length=os.length:=by rw [js,List.length_range]
  rw [egd]
  generalize els:zC (List.range os.length) (ks.take i)=ls at *
  have e1:((k:Nat):Int) - 1=((k - 1:Nat):Int):=by lia
  refine zF ?_
  refine ⟨_,rfl,d,_,_,_,rfl,rfl,SqL.of hd2,zq (qf (i:=0) (by lia)),?_⟩
  refine ⟨_,rfl,_,rfl,_,_,rfl,rfl,d,_,_,_,rfl,rfl,SqL.of hd2,by rw [e1];exact zq (qf (i:=k - 1) (by lia)),?_⟩
  refine ⟨_,rfl,d,_,_,0,rfl,rfl,hd2,by rw [zh];exact qA (j:=0) (by lia),?_⟩
  rw [jj]
  refine ⟨_,rfl,_,rfl,_,rfl,_,_,rfl,rfl,d,_,_,k - 1,rfl,rfl,z4,by rw [e1,zh,List.length_set];exact qA (by lia),?_⟩
  rw [jj,Zu]
  refine ⟨_,_,rfl,fun c u e=>?_,?_⟩
  ·have:c≠d:=zc e hd
   rw [zf this]
   exact s2 _ _ e
  ·rw [z4,jR ek,jp,els]
   rfl
 ·rintro σ H2 ⟨a,b,rfl,s2,hd2⟩
  rw [zh,List.take_length] at hd2
  exact ⟨_,rfl,q d H2 s2 hd2⟩
end
theorem pig:∀(n:Nat) (f:Nat→Nat),(∀i,i≤n→f i < n)→∃a b,a < b∧b≤n∧f a=f b
 | 0,f,h=>absurd (h 0 (kc _)) (by lia)
 | n+1,f,h=>by
  by_cases z:∃a,a≤n∧f a=f (n+1)
  ·obtain ⟨a,ha,e⟩:=z
   exact ⟨a,n+1,by lia,kc _,e⟩
  ·have z':∀a,a≤n→f a≠f (n+1):=fun a ha e=>z ⟨a,ha,e⟩
   have hv:=h (n+1) (kc _)
   obtain ⟨a,b,h1,h2,e⟩:=pig n (fun i=>if f i=n then f (n+1) else f i) fun i hi=>by
    show (if f i=n then f (n+1) else f i) < n
    have hi':=h i (by lia)
    by_cases y:f i=n
    ·rw [kr y]
     have:=z' i hi
     lia
    ·rw [kq y]
     lia
   refine ⟨a,b,h1,by lia,?_⟩
   have ea:=z' a (by lia)
   have eb:=z' b h2
   have e:(if f a=n then f (n+1) else f a)=if f b=n then f (n+1) else f b:=e
   by_cases ya:f a=n
   ·by_cases yb:f b=n
    ·rw [ya,yb]
    ·rw [kr ya,kq yb] at e
     exact absurd e.symm eb
   ·by_cases yb:f b=n
    ·rw [kq ya,kr yb] at e
     exact absurd e ea
    ·rw [kq ya,kq yb] at e
     exact e
theorem z0C {n:Nat} {p r:Nat→Nat} (h:Bij n p r):∀(m i j:Nat),i < n→j < n→it p m i=it p m j→i=j
 | 0,_,_,_,_,e=>e
 | m+1,i,j,hi,hj,e=>h.inj hi hj (z0C h m (p i) (p j) (h.lt i hi) (h.lt j hj) e)
theorem z1a {n:Nat} {p r:Nat→Nat} (h:Bij n p r) {k:Nat} (hk:k < n):∃t,1≤t∧t≤n∧it p t k=k:=by
 obtain ⟨a,b,h1,h2,e⟩:=pig n (fun i=>it p i k) fun i _=>JZ h.lt i k hk
 have e:it p a k=it p b k:=e
 refine ⟨b - a,by lia,by lia,?_⟩
 rw [show b=(b - a)+a by lia,jm] at e
 exact (z0C h a _ _ hk (JZ h.lt _ _ hk) e).symm
theorem z00 {n:Nat} {p r:Nat→Nat} (h:Bij n p r) {k:Nat} (hk:k < n):∃t,1≤t∧t≤n∧it p t k=k∧∀j,1≤j→j < t→it p j k≠k:=by
 obtain ⟨t,h1,h2,e⟩:=z1a h hk
 have go:∀m,m≤t→(∃s,1≤s∧s≤m∧it p s k=k∧∀j,1≤j→j < s→it p j k≠k)∨∀j,1≤j→j≤m→it p j k≠k:=by
  intro m
  induction m with
  | zero=>exact fun _=>.inr fun j h1 h2=>absurd h2 (by lia)
  | succ m ih=>
   intro hm
   rcases ih (by lia) with ⟨s,a,b,c,d⟩ | q
   ·exact .inl ⟨s,a,by lia,c,d⟩
   ·by_cases z:it p (m+1) k=k
    ·exact .inl ⟨m+1,by lia,kc _,z,fun j a b=>q j a (by lia)⟩
    ·refine .inr fun j a b=>?_
     by_cases y:j=m+1
     ·rw [y];exact z
     ·exact q j a (by lia)
 rcases go t (kc _) with ⟨s,a,b,c,d⟩ | q
 ·exact ⟨s,a,by lia,c,d⟩
 ·exact absurd e (q t h1 (kc _))
noncomputable def zM (p:Nat→Nat) (k t:Nat):List Nat:=(List.range t).map fun j=>it p j k
theorem ZQ (p:Nat→Nat) (k t:Nat):(zM p k t).length=t:=by unfold zM;simp
theorem jV (p:Nat→Nat) (k t:Nat):zM p k (t+1)=zM p k t++[it p t k]:=by
 unfold zM
 rw [List.range_succ,kC]
 rfl
theorem jx {p:Nat→Nat} {k t:Nat} (ht:1≤t) (e:it p t k=k) (x:Nat):x∈zM p k t↔Rch p k x:=by
 unfold zM
 rw [kW]
 refine ⟨fun ⟨j,_,q⟩=>⟨j,q⟩,fun ⟨m,q⟩=>?_⟩
 have go:∀(a b:Nat),it p (b+a * t) k=it p b k:=by
  intro a
  induction a with
  | zero=>intro b;rw [Nat.zero_mul,Nat.add_zero]
  | succ a ih=>
   intro b
   rw [Nat.succ_mul,show b+(a * t+t)=t+(b+a * t) by lia,jm,e]
   exact ih b
 refine ⟨m % t,List.mem_range.mpr (Nat.mod_lt _ (by lia)),?_⟩
 have:=go (m / t) (m % t)
 rw [Nat.mul_comm,Nat.mod_add_div] at this
 rw [←this]
 exact q
theorem QH {p:Nat→Nat} {k t x:Nat} (e:it p t k=k) (h:x∈zM p k t):Rch p x k:=by
 unfold zM at h
 obtain ⟨j,hj,q⟩:=kW.mp h
 have hj:=List.mem_range.mp hj
 have q:it p j k=x:=q
 refine ⟨t - j,?_⟩
 rw [←q,←jm,show j+(t - j)=t by lia,e]
theorem QI {p:Nat→Nat} {a b c:Nat} (h:Rch p a b) (g:Rch p b c):Rch p a c:=by
 obtain ⟨m,e⟩:=h
 obtain ⟨m',e'⟩:=g
 exact ⟨m+m',by rw [jm,e,e']⟩
def Seen (p:Nat→Nat) (k:Nat) (l:List Nat):Prop:=∀x,x∈l↔∃i,i < k∧Rch p i x
theorem JK (p:Nat→Nat):Seen p 0 []:=fun x=>⟨fun h=>(by cases h),fun ⟨i,hi,_⟩=>absurd hi (by lia)⟩
open Classical in
theorem JJ {p:Nat→Nat} {k:Nat} {l:List Nat} (h:Seen p k l) (hk:k∈l):Seen p (k+1) l∧rgs (k+1) p=rgs k p:=by
 obtain ⟨i,hi,ri⟩:=(h k).mp hk
 refine ⟨fun x=>⟨fun hx=>?_,fun ⟨j,hj,rj⟩=>?_⟩,?_⟩
 ·obtain ⟨j,hj,rj⟩:=(h x).mp hx
  exact ⟨j,by lia,rj⟩
 ·by_cases z:j=k
  ·subst z
   exact (h x).mpr ⟨i,hi,QI ri rj⟩
  ·exact (h x).mpr ⟨j,by lia,rj⟩
 ·show rgs k p+bt (Lst p k∧k≠0∧p k≠k)=_
  rw [bt_f fun z=>z.1 i hi ri]
  rfl
open Classical in
theorem JL {n:Nat} {p r:Nat→Nat} (B:Bij n p r) {k t:Nat} (hkn:k < n) {l:List Nat} (h:Seen p k l) (hk:k∉l) (ht:1≤t) (e:it p t k=k) (least:∀j,1≤j→j < t→it p j k≠k):
  Seen p (k+1) (l++zM p k t)∧rgs (k+1) p=rgs k p+(if 0∉zM p k t∧1 < t then 1 else 0):=by
 have lst:Lst p k:=fun i hi ri=>hk ((h k).mpr ⟨i,hi,ri⟩)
 refine ⟨fun x=>⟨fun hx=>?_,fun ⟨j,hj,rj⟩=>?_⟩,?_⟩
 ·rcases kK.mp hx with hx | hx
  ·obtain ⟨j,hj,rj⟩:=(h x).mp hx
   exact ⟨j,by lia,rj⟩
  ·exact ⟨k,by lia,(jx ht e x).mp hx⟩
 ·by_cases z:j=k
  ·subst z
   exact kF _ ((jx ht e x).mpr rj)
  ·exact kG _ ((h x).mpr ⟨j,by lia,rj⟩)
 ·show rgs k p+bt (Lst p k∧k≠0∧p k≠k)=_
  congr 1
  have z0:0∉zM p k t↔k≠0:=by
   refine ⟨fun z y=>z ?_,fun z y=>lst 0 (by lia) (QH e y)⟩
   rw [jx ht e]
   exact ⟨0,y⟩
  have z1:1 < t↔p k≠k:=by
   refine ⟨fun z=>least 1 (kc _) z,fun z=>?_⟩
   by_cases y:t=1
   ·subst y
    exact absurd e z
   ·lia
  unfold bt
  by_cases y:k≠0∧p k≠k
  ·rw [kr ⟨lst,y⟩,kr ⟨z0.mpr y.1,z1.mpr y.2⟩]
  ·rw [kq fun x=>y x.2,kq fun x=>y ⟨z0.mp x.1,z1.mp x.2⟩]
def OrdN (n:Nat) (os:List Nat):Prop:=os.Perm (List.range n)
theorem OrdN.len {n:Nat} {os:List Nat} (h:OrdN n os):os.length=n:=(qt h).1
theorem OrdN.exch {n k:Nat} {os:List Nat} (h:OrdN n os) (h2:2≤k) (hk:k≤n):OrdN n (exch os (k - 1)):=(Zd (by have:=h.len;lia)).trans h
theorem z0f {n k:Nat} {os:List Nat} (h:OrdN n os) (h2:2≤k) (hk:k≤n):cost n (lf (exch os (k - 1)))=cost n (fun i=>lf os (ex 0 (k - 1) i)):=
 zX fun i _=>qV (by lia) (by have:=h.len;lia) i
theorem Q9 {n k:Nat} {os:List Nat} (h:OrdN n os) (h2:2≤k) (hk:k≤n):cost n (lf (exch os (k - 1)))≤cost n (lf os)+1:=by
 rw [z0f h h2 hk]
 exact Jt (qt h).2 (by lia) (by lia)
theorem Zf {n:Nat} {os:List Nat} (hn:1≤n) (h:OrdN n os) (e:cost n (lf os)≤0):os=List.range n:=by
 obtain ⟨ks,_,e1,_,e2⟩:=jt hn h
 have:ks=[]:=List.eq_nil_of_length_eq_zero (by lia)
 rw [this] at e2
 exact e2.symm
theorem Z2 (n:Nat):OrdN n (List.range n):=List.Perm.refl _
theorem jo {n:Nat} (hn:1≤n):cost n (lf (List.range n))=0:=ZG hn fun i _=>qM n i
theorem jr:∀(ks l:List Nat) (k:Nat),zC l (ks++[k])=exch (zC l ks) (k - 1)
 | [],l,k=>rfl
 | x :: ks,l,k=>jr ks (exch l (x - 1)) k
theorem Jz {n:Nat} {ks:List Nat} (h:Nums n ks):OrdN n (zC (List.range n) ks):=jq ks (List.range n) (by rw [List.length_range];exact h)
theorem Qt {n:Nat} {ks:List Nat} (hn:1≤n) (h:Nums n ks):cost n (lf (zC (List.range n) ks))≤(ks.length:Int):=by
 have e:cost n (lf (zC (List.range n) ks))=cost n (sw ks):=zX fun i _=>by rw [Q3 ks _ (by rw [List.length_range];exact h),qM]
 rw [e]
 exact QA ks hn h
theorem Qq {n:Nat} {os:List Nat} {c:Nat} (hn:1≤n) (h:OrdN n os) (e:cost n (lf os)=(c:Int)+1):∃one k,OrdN n one∧cost n (lf one)=(c:Int)∧2≤k∧k≤n∧exch one (k - 1)=os:=by
 obtain ⟨ks,_,e1,hk,e2⟩:=jt hn h
 rcases List.eq_nil_or_concat ks with z | ⟨ks',k,z⟩
 ·rw [z] at e1
  have:(0:Int)=(c:Int)+1:=by rw [←e];exact e1
  lia
 ·rw [List.concat_eq_append] at z
  subst z
  have hk':Nums n ks':=fun x hx=>hk x (kG _ hx)
  have hkk:=hk k (kF _ (kj.mpr rfl))
  rw [jr] at e2
  rw [kh] at e1
  have e1:((ks'.length+1:Nat):Int)=cost n (lf os):=e1
  have o1:=Jz hk'
  have up:=Q9 o1 hkk.1 hkk.2
  rw [e2] at up
  have le:=Qt hn hk'
  exact ⟨_,k,o1,by lia,hkk.1,hkk.2,e2⟩
end My
set_option maxHeartbeats 4000000
namespace L2
open PySem PySem.Spec PyProof.Rows
section
variable {prog:Program} {w:World} {A:Around} {E:Value→Shared→Prop} {s:Shared}
theorem jJ {Q:List Value→Shared→Prop} {r:Addr} {a b c:Int} {t u v:Tok} {n:Nat} (hh:A.handled=none) (hr:IsRange s.heap r a b c t u v) (hsmall:Builtin.Range.small a b c=true)
  (hn:Builtin.Range.rangeSize a b c=n) (hlen:n≤2 ^ 24)
  (hQ:∀h' tk acc',(∀b o',s.heap.get? b=some o'→h'.get? b=some o')→ItemsOf (fun i v=>∃t,v=.int (a+i * c) t) acc' n→Q acc'.toList { s with heap:=h',toks:=tk }):
  wpAny (model prog w) A (collect (.ref r)) Q E s:=by
 unfold collect
 refine wpAny_bind (wpAny_runValue (codeAny_builtin F.entry_proto_collect ?_))
 rw [Around.under_plainId F.plain_proto_collect _]
 show wpAny _ A.in1 (newList [] >>= fun l=>again (.builtin "list.__iadd__" ⟨[l,.ref r],[]⟩)) _ _ s
 refine wpAny_bind (wpAny_newObj_type ?_)
 refine wpAny_pure ⟨plainId_quiet F.plain_list_iadd _,codeAny_builtin F.entry_list_iadd ?_⟩
 rw [Around.under_plainId F.plain_list_iadd _]
 show wpAny _ A.in1 (Builtin.List.listExtendWith (.ref s.heap.objs.size) (.ref r) (.ref s.heap.objs.size)) _ _ _
 have hS:(s.heap.push { cls:=.type "list",data:=.seq ([]:List Value).toArray }).get? s.heap.objs.size=some { cls:=.type "list",data:=.seq #[] 0 }:=Heap.get?_push_size _ rfl
 have fin':∀h' tk acc' c',(∀b o,b≠s.heap.objs.size→(s.heap.push { cls:=.type "list",data:=.seq ([]:List Value).toArray }).get? b=some o→h'.get? b=some o)→
   h'.get? s.heap.objs.size=some { cls:=.type "list",dict:=none,data:=.seq acc' c',slots:=#[] }→ItemsOf (fun i v=>∃t,v=.int (a+i * c) t) acc' n→
   wpAny (model prog w) A (match Value.ref s.heap.objs.size with
    | Value.ref a=>do
     match (←load a).data with
      | Data.seq xs _=>pure xs.toList
      | _=>unsupported "internal:collect"
    | _=>unsupported "internal:collect") Q E { s with heap:=h',toks:=tk }:=by
  intro h' tk acc' c' hk hS' hacc
  show wpAny _ A (load s.heap.objs.size >>= _) _ _ _
  refine wpAny_bind (wpAny_load hS' ?_)
  refine wpAny_pure ?_
  exact hQ h' tk acc' (fun b o hb=>hk b o (Nat.ne_of_lt (Heap.lt_size hb)) (Heap.get?_push_of_some _ hb)) hacc
 refine wpAny_mono (wpAny_extend_range (A:=A) (R:=fun res s'=>∃h' tk acc' c',(∀b o,b≠s.heap.objs.size→(s.heap.push { cls:=.type "list",data:=.seq ([]:List Value).toArray }).get? b=some o→h'.get? b=some o)∧
   h'.get? s.heap.objs.size=some { cls:=.type "list",dict:=none,data:=.seq acc' c',slots:=#[] }∧ItemsOf (fun i v=>∃t,v=.int (a+i * c) t) acc' n∧res=.ok (.ret (.ref s.heap.objs.size))∧s'={ s with heap:=h',toks:=tk })
  (s:={ s with heap:=s.heap.push { cls:=.type "list",data:=.seq ([]:List Value).toArray } }) hh (Heap.get?_push_of_some _ hr) hsmall hn hlen _ _ _ hS fun h' tk acc' c' k1 k2 k3=>⟨h',tk,acc',c',k1,k2,k3,rfl,rfl⟩) (fun fin s' h=>?_) (fun e s' h=>?_)
 ·cases fin with
  | done f=>
   obtain ⟨h',tk,acc',c',k1,k2,k3,e,rfl⟩:=h
   cases e
   exact fin' h' tk acc' c' k1 k2 k3
  | again c'=>exact ⟨h.1,codeAny_mono h.2 fun r s'' hr=>by obtain ⟨h',tk,acc',c',k1,k2,k3,rfl,rfl⟩:=hr;exact fin' h' tk acc' c' k1 k2 k3⟩
 ·obtain ⟨_,_,_,_,_,_,_,e,_⟩:=h
  cases e
end
theorem qz (r:Addr) (a b c:Int) (t u v:Tok) (n:Nat) (hsmall:Builtin.Range.small a b c=true) (hn:Builtin.Range.rangeSize a b c=n) (hlen:n≤1000):
  Meets (Builtin.«tuple.__new__» ⟨[.type "tuple",.ref r],[]⟩)
   (fun A R s=>A.handled=none∧IsRange s.heap r a b c t u v∧∀(h':Heap) (tk:Nat) (acc':Array Value),(∀b o',s.heap.get? b=some o'→h'.get? b=some o')→ItemsOf (fun i v=>∃t,v=.int (a+i * c) t) acc' n→R (.ok (.ret (.ref h'.objs.size))) { s with heap:=h'.push { cls:=.type "tuple",data:=.seq acc' },toks:=tk }):=
 .of_wp fun prog w A R s h=>by
  obtain ⟨hp,g,d,tk,os⟩:=s;obtain ⟨hh,ht,h⟩:=h
  have hsub:=sub_tuple_self
  have hinit:=init_tuple_lookup
  have hmh:=madeHere_tuple
  have hT:Shared.TypeIs ⟨hp,g,d,tk,os⟩ (.ref r) "range":=⟨_,ht,rfl⟩
  have ht':hp.get? r=some { cls:=.type "range",data:=.fields #[.int a t,.int b u,.int c v] }:=ht
  wp_walk using AutoSeq1.wpAny_loadPart' ht',wpAny_typeOf hT,jJ (A:=A.in1) (s:=⟨hp,g,d,tk,os⟩) (show A.in1.handled=none from hh) ht hsmall hn (by lia)
  intro h' tk' acc' hk hacc
  show wpAny _ _ (Builtin.Tuple.tupleExact acc'.toList.toArray >>= fun v=>ret v) _ _ _
  have e:acc'.toList.toArray=acc':=by simp
  rw [e]
  unfold Builtin.Tuple.tupleExact
  refine wpAny_bind (wpAny_newObj_type ?_ (by show acc'.size≤sizeLine;rw [hacc.1,sizeLine_eq];lia))
  exact wpAny_pure ⟨_,rfl,h h' tk' acc' hk hacc⟩
section
variable {X:Cx}
def z0M (ta:TA):TE:=fun σ H Q=>ta σ H fun vs H1=>∃n:Nat,vs=[.int (n:Nat)]∧n≤1000∧∀l,H1 l=none→Q (.ref l) (upd H1 l (.tup (((List.range n).map fun i:Nat=>(i:Int)).map V.int)))
theorem QS {a:Expr} {ta:TA} {p p2 pos pos2:Pos} (hc:X.calm=true) (hl:Gl X "tuple") (hml:X.mg "tuple"=none) (hg:Gl X "range") (hm:X.mg "range"=none) (ha:PA X [a] ta)
  (hs:autoParam (starEach [a] X.env=[(false,eval a X.env)]) aR._auto_1) (hs2:autoParam (starEach [.Call (.Name "range" p2) [a] [] pos2] X.env=[(false,eval (.Call (.Name "range" p2) [a] [] pos2) X.env)]) aR._auto_1):
  PE X (.Call (.Name "tuple" p) [.Call (.Name "range" p2) [a] [] pos2] [] pos) (z0M ta):=by
 intro pins s σ H Q I h
 refine wpAny_Call_Name_kw (qv I hl hml (show bootBuiltins "tuple"=some (.type "tuple") by trivial) ?_ (by decide) (by decide))
 refine PyProof.Rows.callWith_type1 ?_ hs2 rfl
 rw [hs2]
 show wpAny _ _ (spliced ((false,eval (.Call (.Name "range" p2) [a] [] pos2) X.env) :: [])) _ _ s
 refine Calls.spliced_cons ?_
 refine Call_ (qv I hg hm boot_range (PyProof.Rows.callWith_type1 (thn (ha pos2 pins s σ H _ I h) fun us s1 ⟨vs,H1,I1,r1,q1⟩=>?_) hs rfl))
 obtain ⟨n,e,hn,q⟩:=q1
 subst e
 cases r1 with
 | cons r rr=>
  cases rr
  obtain ⟨t,rfl⟩:=r
  refine call_range_1 ?_
  refine Calls.spliced_nil ?_
  have I2:Inv X pins σ H1 { s1 with heap:=s1.heap.push { cls:=.type "range",data:=.fields #[.int 0 s1.toks,.int (n:Nat) t,.int 1 (s1.toks+1)] },toks:=s1.toks+1+1 }:=I1.kept fun b o e=>Heap.get?_push_of_some _ e
  refine callType_new F.called_tuple (by decide) (F.typeCall_tuple_1 _) (F.newCall_tuple_1 _) (fun obj=>F.args_object_init_2 obj _) F.entry_tuple_new
   (qz _ 0 (n:Nat) 1 s1.toks t (s1.toks+1) n (small_one (by lia) (by lia) (by lia) (by lia)) (by rw [rangeSize_one];split <;> lia) hn) ⟨I.ok.hd hc,IsRange.new ..,fun h' tk acc' hk hacc=>⟨⟨_,Heap.get?_push_size _ rfl,rfl⟩,?_⟩⟩
  have hlen:acc'.toList.length=((List.range n).map fun i:Nat=>(i:Int)).length:=by
   rw [Array.length_toList,hacc.1,kg,List.length_range]
  have rv:Vals (((List.range n).map fun i:Nat=>(i:Int)).map V.int) acc'.toList:=Zs hlen fun j v e=>by
   have hj:j < n:=by
    have:=(kd.mp e).1
    rw [hlen,kg,List.length_range] at this
    exact this
   obtain ⟨t,e2⟩:=hacc.2 j v (by simpa using e)
   refine ⟨t,(j:Int),by simp [hj],?_⟩
   rw [e2]
   congr 1
   lia
  have hz:(((List.range n).map fun i:Nat=>(i:Int)).map V.int).length≤sizeLine:=by
   rw [kg,kg,List.length_range,sizeLine_eq]
   lia
  have I3:=I2.kept (t':=tk) hk
  have ea:acc'.toList.toArray=acc':=by simp
  refine ⟨.ref h'.objs.size,_,I3.laid (t':=tk) (fun b o e=>Heap.get?_push_of_some _ e) (kc _) (show zv X.prog X.w _ _ _ (.tup (((List.range n).map fun i:Nat=>(i:Int)).map V.int)) from ⟨hz,acc'.toList,rv,?_⟩),rfl,q _ (I3.hok.fresh (kc _))⟩
  rw [ea]
  exact IsTup.new _ _
end
end L2
namespace L2
open PySem PySem.Spec PyProof.Rows
section
variable {prog:Program} {w:World} {A:Around} {E:Value→Shared→Prop} {s:Shared}
theorem ZD {id:String} {d b:Addr} {o ob:Obj} {e:DictEntry} {ep:Nat} {Q:Array DictEntry→Shared→Prop} (ho:s.heap.get? d=some o) (hd:o.data=.dict #[e] ep) (hk:e.key=.ref b) (hb:s.heap.get? b=some ob) (hc:ob.cls=.type "tuple") (h:Q #[e] s):
  wpAny (model prog w) A (Builtin.Dict.entriesForEmpty id d) Q E s:=by
 unfold Builtin.Dict.entriesForEmpty
 refine wpAny_bind (wpAny_dictEntries ho hd ?_)
 rw [←Array.forIn_toList]
 show wpAny _ _ (forIn [e] PUnit.unit _ >>= _) _ _ _
 rw [List.forIn_cons,bind_assoc]
 unfold Builtin.Dict.quietEq
 rw [hk]
 dsimp only
 refine wpAny_bind (wpAny_bind (wpAny_bind (wpAny_specialOf ⟨ob,hb,hc⟩ F.slot_tuple_eq.lookup (wpAny_pure ?_))))
 have e1:(!some (Value.builtin "tuple.__eq__") == some (Value.builtin "object.__eq__"))=true:=by trivial
 have e2:¬((Array.filter (fun x=>x.hash == e.hash) #[e]).size > 1):=by simp
 rw [kr e1,kq e2]
 refine wpAny_pure ?_
 show wpAny _ _ (forIn [] PUnit.unit _ >>= _) _ _ _
 rw [List.forIn_nil]
 exact wpAny_bind (wpAny_pure (wpAny_pure h))
theorem jL {o b:Addr} {oo ob:Obj} {e:DictEntry} {ep:Nat} {Q:Value→Shared→Prop} (hoS:(o == sysModules)=false) (hoo:s.heap.get? o=some oo) (hex:oo.ExactDict) (hdo':oo.data=.dict #[e] ep) (hk:e.key=.ref b) (hb:s.heap.get? b=some ob) (hc:ob.cls=.type "tuple")
  (h:∀h' od epd,h'.get? s.heap.objs.size=some od→od.ExactDict→od.data=.dict #[e] epd→Heap.SameBut s.heap.objs.size (s.heap.push { cls:=.type "dict",data:=.dict #[] }) h'→Q (.ref s.heap.objs.size) { s with heap:=h' }):
  wpAny (model prog w) A (call (.type "dict") [.ref o]) Q E s:=by
 refine callType_codes (Q₁:=fun obj s₁=>obj=.ref s.heap.objs.size∧s₁={ s with heap:=s.heap.push { cls:=.type "dict",data:=.dict #[] } }) F.kt_called_dict (F.kt_typeCall_dict_1 _) F.entry_dict_init (kt_code_dict_new _ ⟨rfl,rfl⟩) ?_
 rintro obj s₁ ⟨rfl,rfl⟩
 have hnew:(s.heap.push { cls:=.type "dict",data:=.dict #[] }).get? s.heap.objs.size=some { cls:=.type "dict",data:=.dict #[] }:=Heap.get?_push_size _ rfl
 have hoo2:=Heap.get?_push_of_some { cls:=.type "dict",data:=.dict #[] } hoo
 have hb2:=Heap.get?_push_of_some { cls:=.type "dict",data:=.dict #[] } hb
 have hT:Shared.TypeIs { s with heap:=s.heap.push { cls:=.type "dict",data:=.dict #[] } } (.ref s.heap.objs.size) "dict":=⟨_,hnew,rfl⟩
 have hTo:Shared.TypeIs { s with heap:=s.heap.push { cls:=.type "dict",data:=.dict #[] } } (.ref o) "dict":=⟨_,hoo2,hex.1⟩
 have hdo:s.heap.objs.size≠o:=fun z=>absurd (Heap.lt_size hoo) (by rw [z];exact Nat.lt_irrefl _)
 refine ⟨hT,F.args_dict_init_2 _ _,?_⟩
 unfold Builtin.«dict.__init__»
 refine wpAny_bind ?_
 unfold Builtin.Dict.selfAndRest
 refine wpAny_bind (wpAny_notOrdered_dict hT ?_)
 show wpAny _ _ (pure (s.heap.objs.size,[Value.ref o])) _ _ _
 refine wpAny_pure ?_
 show wpAny _ _ (Builtin.Dict.updateFrom "dict.__init__" s.heap.objs.size (.ref o) [] .none) _ _ _
 unfold Builtin.Dict.updateFrom
 refine wpAny_bind (wpAny_typeOf hTo ?_)
 rw [kq (by decide)]
 refine wpAny_bind ?_
 unfold Builtin.Dict.merge
 refine wpAny_bind ?_
 unfold Builtin.Dict.readDirectly
 refine wpAny_bind (wpAny_isInstance hTo isSubtype_dict_dict ?_)
 simp only [Bool.not_true,Bool.false_eq_true,if_false]
 refine wpAny_bind (wpAny_specialOf hTo F.slot_dict_iter.lookup (wpAny_pure ?_))
 simp only [kS,if_true]
 refine wpAny_bind (wpAny_pure ?_)
 unfold Builtin.Dict.mergeDict
 rw [kq (by simpa using hdo)]
 unfold Builtin.Dict.showsAll
 rw [kq (by rw [hoS];exact ka)]
 refine wpAny_bind (wpAny_pure ?_)
 refine wpAny_bind (wpAny_dictEntries hoo2 hdo' ?_)
 have hfew:(decide ((#[e]:Array DictEntry).size≤8)&&(#[e]:Array DictEntry).all fun e=>(keyPart e.key).isSome)=false:=by simp [hk,keyPart]
 dsimp only
 rw [hfew]
 simp only [Bool.not_false,if_true]
 refine wpAny_bind (wpAny_dictEntries hnew rfl ?_)
 simp only [Array.isEmpty_empty,if_true]
 refine wpAny_bind (ZD hoo2 hdo' hk hb2 hc ?_)
 rw [kr (by simp)]
 refine wpAny_bind (wpAny_updateDictKeysTo hnew rfl (wpAny_pure ?_) (by simp))
 show wpAny _ _ (Builtin.Dict.addKeywords s.heap.objs.size [] >>= _) _ _ _
 refine wpAny_bind (wpAny_pure (wpAny_pure ⟨rfl,h _ _ 1 (Heap.get?_update_self _ hnew (Obj.isFreed_of_dict (Obj.data_mapDictKeys rfl _))) ?_ (Obj.data_mapDictKeys rfl _) (Heap.SameBut.update ..)⟩))
 exact (show Obj.ExactDict { cls:=.type "dict",data:=.dict #[] } from ⟨rfl,rfl,rfl⟩).mapDictKeys _
end
section
variable {X:Cx}
theorem ZK:qK X (.type "dict") (fun xs H Q=>∃a k v,xs=[.ref a]∧H a=some (.dT [(k,v)])∧∀p,H p=none→Q (.ref p) (upd H p (.dT [(k,v)]))):=by
 intro pins s σ H xs us Q I r h
 obtain ⟨a,k,v,rfl,ha,q⟩:=h
 obtain ⟨u,rfl,ru⟩:=Zt r
 cases ru
 obtain ⟨z,hns,ys,rel,o,es,ep,h1,h2,h3,h4,h5⟩:=(show zv X.prog X.w H s.heap a (.dT [(k,v)]) from I.hok a _ ha)
 cases rel with
 | @cons _ y _ _ hy t=>
  cases t
  obtain ⟨k',b,uv⟩:=y
  obtain ⟨e1,e2,e3⟩:=hy
  have e1:k=k':=e1
  subst e1
  have e2:H b=some (.tup (k.map kV)):=e2
  have ees:es=#[entryOfKey (tupleKind (zw X.prog X.w)) (k,b,uv)]:=by
   obtain ⟨l⟩:=es
   have h4:l=[entryOfKey (tupleKind (zw X.prog X.w)) (k,b,uv)]:=h4
   rw [h4]
  subst ees
  obtain ⟨_,its,_,ob,hb,hcb,_⟩:=(show zv X.prog X.w H s.heap b (.tup (k.map kV)) from I.hok b _ e2)
  refine jL hns h1 h2 h3 rfl hb hcb fun h' od epd k1 k2 k3 hs=>?_
  have hH:H s.heap.objs.size=none:=I.hok.fresh (kc _)
  have hbn:b≠s.heap.objs.size:=zc e2 hH
  refine ⟨.ref s.heap.objs.size,_,I.laid (a:=s.heap.objs.size) (o:=.dT [(k,v)]) (t':=s.toks) (fun c oc hc=>(hs.2 c (Nat.ne_of_lt (Heap.lt_size hc))).trans (Heap.get?_push_of_some _ hc)) (kc _) ?_,rfl,q _ hH⟩
  refine ⟨z,beq_eq_false_iff_ne.mpr (Ne.symm (Nat.ne_of_lt I.big)),[(k,b,uv)],.cons ⟨rfl,by rw [zf hbn];exact e2,e3⟩ .nil,od,_,epd,k1,k2,k3,rfl,h5⟩
end
end L2
namespace L2
open PySem PySem.Spec PyProof.Rows
section
variable {X:Cx}
def z0N (tk tv:TE):TE:=fun σ H Q=>∀p,H p=none→Qz [(tk,tv)] σ (upd H p (.dT [])) fun ps H2=>∃x v b k,ps=[(x,v)]∧x=.ref b∧H2 b=some (.tup (k.map kV))∧H2 p=some (.dT [])∧Q (.ref p) (upd H2 p (.dT [(k,v)]))
theorem QT {k v:Expr} {pos:Pos} {tk tv:TE} (hu:X.A.units+1 < cLine) (hk:PE X k tk) (hv:PE X v tv):PE X (.Dict [some k] [v] pos) (z0N tk tv):=by
 intro pins s σ H Q I q
 have hn:=I.hok.fresh (kc s.heap.objs.size)
 have I1:=I.laid (a:=s.heap.objs.size) (o:=.dT []) (h':=s.heap.push { cls:=.type "dict",data:=.dict #[] }) (t':=s.toks) (fun _ _ q=>Heap.get?_push_of_some _ q) (kc _) (Q7 s.heap I.big)
 have hp:=q s.heap.objs.size hn
 refine wpAny_Dict_any rfl rfl (by simp) (by simp) (thn ((JP hk hv z0V) pins _ σ _ _ I1 hp) fun ws s2 zz=>?_)
 obtain ⟨ps,H2,I2,rel,x,w',b,kk,ep,ex,eb,e,q2⟩:=zz
 subst ep ex
 cases rel with
 | @cons _ y _ _ hy t=>
  cases t
  obtain ⟨u1,u2⟩:=y
  obtain ⟨r1,r2⟩:=hy
  obtain rfl:u1=Value.ref b:=r1
  obtain ⟨z,hd,xs,rl,dd⟩:=z2l I2.hok e
  cases rl
  show wpAny _ _ (storeAll s.heap.objs.size [(Value.ref b,u2)]) _ _ _
  unfold storeAll
  rw [List.forIn_cons,bind_assoc]
  refine wpAny_bind (wpAny_dictSet_heap (hsz:=Nat.zero_le _) (knd:=tupleKind (zw X.prog X.w)) (show X.A.units < cLine by lia) (Q4 I2.hok eb) dd fun h' dd' hs=>wpAny_bind (wpAny_pure ?_))
  show wpAny _ _ (forIn [] PUnit.unit _) _ _ _
  rw [List.forIn_nil]
  refine wpAny_pure ⟨.ref s.heap.objs.size,_,?_,rfl,q2⟩
  obtain ⟨qo,es,ep,hq,h2,h3,h4,_,h5⟩:=dd'
  refine ZE I2 (by rw [e];exact True.intro) hs ⟨qo,hq⟩ ⟨(by show 1≤sizeLine;decide),hd,_,.cons ⟨rfl,?_,r2⟩ .nil,qo,es,ep,hq,h2,h3,h4,h5⟩
  rw [zf (Z7 eb e (fun z=>nomatch z))]
  exact eb
end
end L2
namespace L2
open PySem PySem.Spec PyProof.Rows
section
variable {prog:Program} {w:World} {A:Around} {E:Value→Shared→Prop} {s:Shared}
theorem Qj {d:Addr} {o:Obj} {es:Array DictEntry} {ep:Nat} {Q:Value→Shared→Prop} (hd:(d == sysModules)=false) (ho:s.heap.get? d=some o) (hex:o.ExactDict) (hdat:o.data=.dict es ep)
  (hQ:Q (.ref s.heap.objs.size) { s with heap:=s.heap.push { cls:=.type "dict_keyiterator",data:=.fields #[.ref d,.int 0 0,.int es.size 0,.int ep 0] } }):wpAny (model prog w) A (pyIter (.ref d)) Q E s:=by
 have hT:s.TypeIs (.ref d) "dict":=⟨_,ho,hex.1⟩
 refine wpAny_pyIter_slot hT F.slot_dict_iter (wpAny_call_entry F.slot_dict_iter hT F.entry_dict_iter ?_ (F.args_dict_iter_1 _))
 unfold Builtin.«dict.__iter__»
 refine wpAny_bind ?_
 unfold Builtin.Dict.dictSlotNone
 refine wpAny_bind (wpAny_notOrdered_dict hT ?_)
 show wpAny _ _ (pure (Value.ref d)) _ _ s
 refine wpAny_pure ?_
 show wpAny _ _ (Builtin.Dict.showsAll d >>= _) _ _ s
 unfold Builtin.Dict.showsAll
 rw [kq (by rw [hd];exact ka)]
 refine wpAny_bind (wpAny_pure ?_)
 refine wpAny_bind (wpAny_dictEntries ho hdat ?_)
 refine wpAny_bind (wpAny_dictEpoch ho hdat ?_)
 refine wpAny_bind (wpAny_newObj_type (wpAny_pure ⟨_,rfl,"dict_keyiterator",_,⟨_,Heap.get?_push_size _ rfl,rfl⟩,F.slot_dict_keyiterator_next.lookup,?_⟩))
 simpa [rawInt] using hQ
theorem J9 {it d:Addr} {i ep:Nat} {od:Obj} {es:Array DictEntry} {Q:Option Value→Shared→Prop} (hit:s.heap.IsKeyIter it d i es.size ep) (hod:s.heap.get? d=some od) (hdd:od.data=.dict es ep) (hlt':i < es.size)
  (hQ:∀h',h'.IsKeyIter it d (i+1) es.size ep→Heap.SameBut it s.heap h'→Q (some es[i].key) { s with heap:=h' }):wpAny (model prog w) A (pyNext (.ref it)) Q E s:=by
 obtain ⟨o,ho,hc,hd⟩:=id hit
 unfold pyNext
 refine wpAny_bind (wpAny_attempt (wpAny_callSpecial?_slot (name:=Str.ofString "__next__") hit.typeIs F.slot_dict_keyiterator_next
  (wpAny_call_entry F.slot_dict_keyiterator_next hit.typeIs F.entry_dict_keyiterator_next ?_ (F.args_dict_keyiterator_next_1 _))))
 refine wpAny_bind (wpAny_pure (wpAny_bind (wpAny_bind ?_)))
 first | refine wpAny_bind (wpAny_typeNameOfWhole_keyiter hit.typeIs (wpAny_pure ?_)) | refine wpAny_bind (wpAny_typeNameOf_keyiter hit.typeIs (wpAny_pure ?_))
 refine wpAny_bind (wpAny_fieldsOf ho hd ?_)
 have hown:Builtin.Dict_items.ownsTuple "dict_keyiterator"=false:=by decide
 simp only [hown,Bool.false_eq_true,if_false]
 show wpAny _ _ (if (Value.ref d == Value.none)=true then _ else _) _ _ s
 rw [kq (show ¬((Value.ref d == Value.none)=true) from ka)]
 refine wpAny_bind (wpAny_pure (wpAny_bind (wpAny_dictEntries hod hdd ?_)))
 rw [kq (by simp)]
 refine wpAny_bind (wpAny_pure (wpAny_bind (wpAny_dictEpoch hod hdd ?_)))
 rw [kq (by simp)]
 refine wpAny_pure ?_
 simp only [show ¬((i:Int) < 0) from by lia,if_false,kQ,Array.getElem?_eq_getElem hlt']
 refine wpAny_bind ?_
 first | refine wpAny_bind (wpAny_typeNameOfWhole_keyiter hit.typeIs (wpAny_pure ?_)) | refine wpAny_bind (wpAny_typeNameOf_keyiter hit.typeIs (wpAny_pure ?_))
 refine wpAny_bind (wpAny_isOneOf_keyiter hit.typeIs ?_)
 show wpAny _ _ (setField (.ref it) 1 (rawInt ((i:Int)+1)) >>= _) _ _ s
 refine wpAny_bind (wpAny_setField ho hd (by simp) ?_)
 have hit':(s.heap.update it (Obj.mapFields (·.setIfInBounds 1 (rawInt ((i:Int)+1))))).IsKeyIter it d (i+1) es.size ep:=
  ⟨_,Heap.get?_update_self _ ho (Obj.isFreed_of_fields (Obj.data_mapFields hd _)),(Obj.cls_mapFields ..).trans hc,by rw [Obj.data_mapFields hd];simp [rawInt]⟩
 refine wpAny_bind (wpAny_holding ?_)
 refine wpAny_bind (wpAny_isOneOf_keyiter (s:={ s with heap:=s.heap.update it (Obj.mapFields (·.setIfInBounds 1 (rawInt ((i:Int)+1)))) }) hit'.typeIs ?_)
 show wpAny _ _ (pure es[i].key) _ _ _
 exact wpAny_pure (wpAny_pure ⟨_,rfl,wpAny_pure (hQ _ hit' (Heap.SameBut.update ..))⟩)
theorem JY {it d:Addr} {i ep:Nat} {od:Obj} {es:Array DictEntry} {Q:Option Value→Shared→Prop} (hh:A.handled=none) (hit:s.heap.IsKeyIter it d i es.size ep) (hod:s.heap.get? d=some od) (hdd:od.data=.dict es ep) (hge:es.size≤i)
  (hQ:∀h',Heap.ExtBut it s.heap h'→Q none { s with heap:=h' }):wpAny (model prog w) A (pyNext (.ref it)) Q E s:=by
 obtain ⟨o,ho,hc,hd⟩:=id hit
 unfold pyNext
 refine wpAny_bind (wpAny_attempt (wpAny_callSpecial?_slot (name:=Str.ofString "__next__") hit.typeIs F.slot_dict_keyiterator_next
  (wpAny_call_entry F.slot_dict_keyiterator_next hit.typeIs F.entry_dict_keyiterator_next ?_ (F.args_dict_keyiterator_next_1 _))))
 refine wpAny_bind (wpAny_pure (wpAny_bind (wpAny_bind ?_)))
 first | refine wpAny_bind (wpAny_typeNameOfWhole_keyiter hit.typeIs (wpAny_pure ?_)) | refine wpAny_bind (wpAny_typeNameOf_keyiter hit.typeIs (wpAny_pure ?_))
 refine wpAny_bind (wpAny_fieldsOf ho hd ?_)
 have hown:Builtin.Dict_items.ownsTuple "dict_keyiterator"=false:=by decide
 simp only [hown,Bool.false_eq_true,if_false]
 show wpAny _ _ (if (Value.ref d == Value.none)=true then _ else _) _ _ s
 rw [kq (show ¬((Value.ref d == Value.none)=true) from ka)]
 refine wpAny_bind (wpAny_pure (wpAny_bind (wpAny_dictEntries hod hdd ?_)))
 rw [kq (by simp)]
 refine wpAny_bind (wpAny_pure (wpAny_bind (wpAny_dictEpoch hod hdd ?_)))
 rw [kq (by simp)]
 refine wpAny_pure ?_
 simp only [show ¬((i:Int) < 0) from by lia,if_false,kQ,Array.getElem?_eq_none hge]
 refine wpAny_bind ?_
 first | refine wpAny_bind (wpAny_typeNameOfWhole_keyiter hit.typeIs (wpAny_pure ?_)) | refine wpAny_bind (wpAny_typeNameOf_keyiter hit.typeIs (wpAny_pure ?_))
 show wpAny _ _ (setField (.ref it) 0 .none >>= _) _ _ s
 refine wpAny_bind (wpAny_setField ho hd (by simp) ?_)
 show wpAny _ _ (newExc (.type "StopIteration") [] >>= _) _ _ _
 refine wpAny_bind ?_
 simp only [newExc,newTuple]
 refine wpAny_bind (wpAny_newObj_type ?_ (by size_fits))
 refine wpAny_bind (m:=firstArgMember _ _) (wpAny_of_eq (a:=Value.none) (by first | rfl | (simp only [firstArgMember];rfl)) ?_)
 refine wpAny_newObj_type ?_ (by size_fits)
 simp only [raiseNew]
 refine wpAny_bind (wpAny_handled ?_)
 rw [show A.in1.handled=none from hh]
 refine wpAny_bind (wpAny_pure (wpAny_throw ?_))
 refine wpAny_bind (wpAny_isInstance (T:="StopIteration") (b:=true) ⟨_,Heap.get?_push_size _ rfl,rfl⟩ isSubtype_stop ?_)
 exact wpAny_pure (hQ _ (((Heap.SameBut.update ..).extBut.push _).push _))
end
theorem jc {prog:Program} {w:World} {A:Around} {E:Value→Shared→Prop} {s:Shared} {it d:Addr} {i n ep:Nat} {Q:Value→Shared→Prop} (he:s.heap.IsKeyIter it d i n ep) (h:Q (.ref it) s):wpAny (model prog w) A (pyIter (.ref it)) Q E s:=by
 have hT:=he.typeIs
 refine wpAny_pyIter_slot hT F.slot_dict_keyiterator_iter (wpAny_call_entry F.slot_dict_keyiterator_iter hT F.entry_dict_keyiterator_iter ?_ (F.args_dict_keyiterator_iter_1 _))
 show wpAny _ _ (ret (.ref it)) _ _ s
 exact wpAny_pure ⟨_,rfl,"dict_keyiterator",_,hT,F.slot_dict_keyiterator_next.lookup,h⟩
noncomputable def Itk (a:Addr) (o:Obj) (kvs:List (List Key × V)):It:=
 ⟨fun i H=>H a=some (.frz o (.dT kvs))∧i < kvs.length,fun i H x H'=>H'=H∧∃b k v,x=.ref b∧kvs[i]?=some (k,v)∧H b=some (.tup (k.map kV)),fun i H=>H a=some (.frz o (.dT kvs))∧kvs.length≤i⟩
theorem z0A {H:Hp}:∀{kvs:List (List Key × V)} {xs:List (List Key × Addr × Value)} {i:Nat} {p:List Key × V},KT H kvs xs→kvs[i]?=some p→∃b u,xs[i]?=some (p.1,b,u)∧H b=some (.tup (p.1.map kV))
 | _,_,i,p,.nil,e=>by simp at e
 | _,_,0,p,@Paired.cons _ _ _ _ y _ _ h _,e=>by
  simp at e
  subst e
  obtain ⟨k,b,u⟩:=y
  exact ⟨b,u,by rw [h.1];rfl,h.2.1⟩
 | _,_,i+1,p,.cons _ t,e=>by
  obtain ⟨b,u,q1,q2⟩:=z0A (i:=i) t (by simpa using e)
  exact ⟨b,u,by simpa using q1,q2⟩
theorem Qy {P:Program} {w:World} {K:ko} {tg:Expr} (a it:Addr) (o:Obj) (kvs:List (List Key × V)):
  Turn P w K tg (Itk a o kvs) [it] it (fun i h=>∃es ep,o.data=.dict es ep∧es.size=kvs.length∧h.IsKeyIter it a i es.size ep) where
 mem:=by simp
 obj:=fun i h st b hb=>by
  have z:b=it:=by simpa using hb
  subst z
  obtain ⟨es,ep,_,_,ob,q,c,dd⟩:=st
  exact ⟨_,q,fun v y=>by rw [dd] at y;cases y⟩
 keep:=fun i h h' st k=>let ⟨es,ep,d,z,ob,q,c,dd⟩:=st;⟨es,ep,d,z,ob,k it (by simp) _ q,c,dd⟩
 item:=by
  intro X hP hw hK hc i pins s σ H E I hf st hg
  subst hP hw hK
  obtain ⟨hq,hi⟩:=hg
  obtain ⟨es,ep,hd,hz,hit⟩:=st
  obtain ⟨ho,_,hsy,xs,rel,ob,es',ep',hob,hex,hdat,h4,h5⟩:=(show zv X.prog X.w H s.heap a (.frz o (.dT kvs)) from I.hok a _ hq)
  rw [ho] at hob
  cases hob
  rw [hd] at hdat
  cases hdat
  obtain ⟨p,hp⟩:∃p,kvs[i]?=some p:=⟨kvs[i],kD hi⟩
  obtain ⟨b,u,hx,hb⟩:=z0A rel hp
  have hlt:i < es.size:=by lia
  have ek:es[i].key=.ref b:=by
   have e1:es.toList[i]?=some (entryOfKey (tupleKind (zw X.prog X.w)) (p.1,b,u)):=by rw [h4,List.getElem?_map,hx];rfl
   have e2:es.toList[i]?=some es[i]:=by simp [hlt]
   rw [e2] at e1
   rw [kt e1]
   rfl
  obtain ⟨f0,f1,f2,f3,f4,f5⟩:=hf it (by simp)
  refine J9 hit ho hd hlt fun h' st' sb=>?_
  have I1:Inv X pins σ H { s with heap:=h' }:=I.turned (t':=s.toks) (fun c oc hc e=>(sb.2 c hc).trans e) f0 f1 f3 f4 f5
  obtain ⟨oi,e,c,dd⟩:=id st'
  rw [ek]
  exact ⟨.ref b,rfl,z1c (s:={ s with heap:=h' }) e c dd (by decide) ⟨.ref b,H,I1,rfl,⟨rfl,b,p.1,p.2,rfl,hp,hb⟩,⟨es,ep,hd,hz,st'⟩,fun c hc=>(hf c hc).1⟩⟩
 done:=by
  intro X hP hw hK hc i pins s σ H E I hf st hg
  subst hP hw hK
  obtain ⟨hq,hi⟩:=hg
  obtain ⟨es,ep,hd,hz,hit⟩:=st
  obtain ⟨ho,_⟩:=(show zv X.prog X.w H s.heap a (.frz o (.dT kvs)) from I.hok a _ hq)
  obtain ⟨f0,f1,f2,f3,f4,f5⟩:=hf it (by simp)
  exact JY (I.ok.hd hc) hit ho hd (by lia) fun h' eb=>⟨rfl,I.turned (t':=s.toks) (fun b o hb e=>eb b o hb e) f0 f1 f3 f4 f5⟩
 self:=fun _ _ _ _ _ st h=>let ⟨es,ep,_,_,q⟩:=st;jc q h
section
variable {X:Cx} {tg:Expr}
def z29 (td:TE):TI:=fun σ H R=>td σ H fun x H1=>∃a kvs,x=.ref a∧H1 a=some (.dT kvs)∧∀o,R (Itk a o kvs) (upd H1 a (.frz o (.dT kvs)))
theorem JQ {l:Expr} {td:TE} (hl:PE X l td):PI X tg l (z29 td):=by
 intro pins s σ H R I h
 refine thn (hl pins s σ H _ I h) fun v s1 zz=>?_
 obtain ⟨x,H1,I1,r1,q1⟩:=zz
 obtain ⟨a,kvs,e,ha,q⟩:=q1
 subst e
 cases r1
 obtain ⟨hz,hsy,xs,rel,ob,es,ep,hob,hex,hdat,h4,h5⟩:=(show zv X.prog X.w H1 s1.heap a (.dT kvs) from I1.hok a _ ha)
 have hsz:es.size=kvs.length:=by
  have e1:es.toList.length=xs.length:=by rw [h4,kg]
  have e2:kvs.length=xs.length:=Paired.length rel
  rw [Array.length_toList] at e1
  lia
 refine Qj hsy hob hex hdat ?_
 have I2:Inv X pins σ H1 { s1 with heap:=s1.heap.push { cls:=.type "dict_keyiterator",data:=.fields #[.ref a,.int 0 0,.int es.size 0,.int ep 0] } }:=I1.kept (t':=s1.toks) fun b o e=>Heap.get?_push_of_some _ e
 have hob2:(s1.heap.push { cls:=.type "dict_keyiterator",data:=.fields #[.ref a,.int 0 0,.int es.size 0,.int ep 0] }).get? a=some ob:=Heap.get?_push_of_some _ hob
 have nf:=I2.nofrz ha (fun _ _=>nofun)
 have I3:=I2.recast (u':=.frz ob (.dT kvs)) ha (fun _=>nofun) (fun _=>nofun) (fun _=>nofun) nf ⟨hob2,hz,hsy,xs,KT.keeps (H:=H1) rel (fun b ys e=>by rw [zf (Z7 e ha nofun)];exact e),ob,es,ep,hob2,hex,hdat,h4,h5⟩
 refine ⟨s1.heap.objs.size,[s1.heap.objs.size],_,_,_,rfl,I3,Qy a _ ob kvs,⟨es,ep,hdat,hsz,_,Heap.get?_push_size _ rfl,rfl,rfl⟩,fun b hb=>?_,q ob⟩
 have e:b=s1.heap.objs.size:=by simpa using hb
 subst e
 have hn:=I1.hok.fresh (kc s1.heap.objs.size)
 refine I1.fpOk (kc _) ?_
 rw [zf (zc ha hn).symm]
 exact hn
end
theorem z04 {a:Addr} {o:Obj} {kvs:List (List Key × V)} {g:TG} {tb:TS} {D:Ends} {σ:St} {H:Hp} (Pv:Nat→St→Hp→Prop) (h0:Pv 0 σ H) (hl:∀i σ H,i≤kvs.length→Pv i σ H→H a=some (.frz o (.dT kvs)))
  (hs:∀i b k v σ H,kvs[i]?=some (k,v)→Pv i σ H→H b=some (.tup (k.map kV))→g (.ref b) σ H fun σ2 H2=>tb { D with nx:=Pv (i+1),ct:=Pv (i+1),bk:=D.nx } σ2 H2) (hd:∀σ H,Pv kvs.length σ H→D.nx σ H):
  ∃W:Nat→Nat→St→Hp→Prop,(∃m,W 0 m σ H)∧∀i m σ H,W i m σ H→
   ((Itk a o kvs).stop i H∧D.nx σ H)∨((Itk a o kvs).go i H∧∃N:St→Hp→Prop,(∀σ' H',N σ' H'→∃m',m' < m∧W (i+1) m' σ' H')∧∀x H',(Itk a o kvs).yld i H x H'→g x σ H' fun σ2 H2=>tb { D with nx:=N,ct:=N,bk:=D.nx } σ2 H2):=by
 refine ⟨fun i m σ H=>m=kvs.length - i∧i≤kvs.length∧Pv i σ H,⟨kvs.length,by simp,Nat.zero_le _,h0⟩,?_⟩
 rintro i m σ H ⟨rfl,hi,p⟩
 have q:=hl i σ H hi p
 by_cases hlt:i < kvs.length
 ·refine .inr ⟨⟨q,hlt⟩,Pv (i+1),fun σ' H' h=>⟨kvs.length - (i+1),by lia,rfl,by lia,h⟩,fun x H' y=>?_⟩
  obtain ⟨e,b,k,v,ex,ek,eb⟩:=y
  subst e ex
  exact hs i b k v σ _ ek p eb
 ·have e:i=kvs.length:=by lia
  subst e
  exact .inl ⟨⟨q,kc _⟩,hd σ H p⟩
end L2
set_option maxHeartbeats 8000000
namespace My
open PySem PySem.Spec PyProof.Rows L2
variable {P:Program} {w:World} {K:ko} {mg:Str→Option Value} {base:Heap}
noncomputable def kk (os:List Nat):List Key:=os.map fun i:Nat=>(Sum.inl (i:Int):Key)
theorem JX (os:List Nat):(kk os).map kV=nv os:=by
 unfold kk nv iv
 rw [List.map_map,List.map_map]
 rfl
theorem z0B:∀{a b:List Nat},kk a=kk b→a=b
 | [],[],_=>rfl
 | [],_ :: _,h=>by cases h
 | _ :: _,[],h=>by cases h
 | x :: a,y :: b,h=>by
  have h:(Sum.inl (x:Int):Key) :: kk a=(Sum.inl (y:Int):Key) :: kk b:=h
  injection h with h1 h2
  injection h1 with h1
  rw [z0B h2,Int.ofNat.inj h1]
noncomputable def dOf (S:List (List Nat)):List (List Key × V):=S.map fun os=>(kk os,V.bl true)
theorem ZF (S:List (List Nat)):(dOf S).length=S.length:=by unfold dOf;simp
theorem z2o {S:List (List Nat)} {i:Nat} {k:List Key} {v:V} (h:(dOf S)[i]?=some (k,v)):∃os,S[i]?=some os∧k=kk os:=by
 unfold dOf at h
 rw [List.getElem?_map] at h
 cases e:S[i]? with
 | none=>rw [e] at h;cases h
 | some os=>rw [e] at h;cases h;exact ⟨os,rfl,rfl⟩
theorem Jr (S:List (List Nat)) (os:List Nat):((dOf S).any fun kv=>decide (kv.1=kk os))=decide (os∈S):=by
 unfold dOf
 rw [List.any_map,Bool.eq_iff_iff,List.any_eq_true,decide_eq_true_iff]
 refine ⟨fun ⟨x,hx,e⟩=>?_,fun h=>⟨os,h,by simp⟩⟩
 have e:kk x=kk os:=ku e
 rw [←z0B e]
 exact hx
theorem Jp (S:List (List Nat)) (os:List Nat):(valV (dOf S) (kk os)).isSome=decide (os∈S):=by
 rw [←jw,Jr]
theorem Jq {S:List (List Nat)} {os:List Nat} (h:os∉S):putK (dOf S) (kk os) (.bl true)=dOf (S++[os]):=by
 unfold putK
 rw [Jr,ke h,kq ka]
 unfold dOf
 rw [kC]
 rfl
structure Rnd (n c:Nat) (S T:List (List Nat)):Prop where
 s:∀x∈S,OrdN n x∧cost n (lf x)≤(c:Int)+1
 t:∀x,x∈T↔x∈S∧cost n (lf x)=(c:Int)+1
 old:∀x,OrdN n x→cost n (lf x)≤(c:Int)→x∈S
theorem Rnd.start {n c:Nat} {S:List (List Nat)} (h:∀x,x∈S↔OrdN n x∧cost n (lf x)≤(c:Int)):Rnd n c S []:=
 ⟨fun x hx=>⟨((h x).mp hx).1,by have:=((h x).mp hx).2;lia⟩,fun x=>⟨fun q=>(by cases q),fun ⟨q,e⟩=>absurd ((h x).mp q).2 (by lia)⟩,fun x o e=>(h x).mpr ⟨o,e⟩⟩
theorem Rnd.more {n c:Nat} {S T:List (List Nat)} (h:Rnd n c S T) {one:List Nat} {k:Nat} (o:OrdN n one) (e:cost n (lf one)=(c:Int)) (h2:2≤k) (hk:k≤n) (hn:exch one (k - 1)∉S):Rnd n c (S++[exch one (k - 1)]) (T++[exch one (k - 1)]):=by
 have o2:=o.exch h2 hk
 have up:=Q9 o h2 hk
 have lo:¬cost n (lf (exch one (k - 1)))≤(c:Int):=fun z=>hn (h.old _ o2 z)
 have e2:cost n (lf (exch one (k - 1)))=(c:Int)+1:=by lia
 refine ⟨fun x hx=>?_,fun x=>?_,fun x ox ex=>kG _ (h.old x ox ex)⟩
 ·rcases kK.mp hx with q | q
  ·exact h.s x q
  ·rw [kj.mp q]
   exact ⟨o2,by lia⟩
 ·rw [kK,kK,kj,h.t x]
  refine ⟨fun q=>?_,fun ⟨q,ex⟩=>?_⟩
  ·rcases q with q | q
   ·exact ⟨.inl q.1,q.2⟩
   ·exact ⟨.inr q,by rw [q];exact e2⟩
  ·rcases q with q | q
   ·exact .inl ⟨q,ex⟩
   ·exact .inr q
theorem Rnd.fin {n c:Nat} {S T L:List (List Nat)} (hn:1≤n) (h:Rnd n c S T) (hL:∀x,x∈L↔OrdN n x∧cost n (lf x)=(c:Int)) (all:∀x∈L,∀k,2≤k→k≤n→exch x (k - 1)∈S):
  (∀x,x∈S↔OrdN n x∧cost n (lf x)≤((c+1:Nat):Int))∧∀x,x∈T↔OrdN n x∧cost n (lf x)=((c+1:Nat):Int):=by
 have up:∀x,OrdN n x→cost n (lf x)=(c:Int)+1→x∈S:=fun x o e=>by
  obtain ⟨one,k,o1,e1,h2,hk,ex⟩:=Qq hn o e
  rw [←ex]
  exact all one ((hL one).mpr ⟨o1,e1⟩) k h2 hk
 refine ⟨fun x=>⟨fun q=>⟨(h.s x q).1,by have:=(h.s x q).2;lia⟩,fun ⟨o,e⟩=>?_⟩,fun x=>?_⟩
 ·by_cases z:cost n (lf x)≤(c:Int)
  ·exact h.old x o z
  ·exact up x o (by lia)
 ·rw [h.t x]
  refine ⟨fun ⟨q,e⟩=>⟨(h.s x q).1,by lia⟩,fun ⟨o,e⟩=>⟨up x o (by lia),by lia⟩⟩
section
def ZP:Sp:=fun vs H Q _=>∃(o:Addr) (os:List Nat) (C:Nat),vs=[.ref o]∧H o=some (.lst (nv os))∧1≤os.length∧os.length≤5∧OrdN os.length os∧cost os.length (lf os)=(C:Int)∧C≤7∧∀H',Same H H'→Q (.int (C:Int)) H'
structure LayA (H H2:Hp) (n C:Nat) (la sa:Addr) (c:Nat) (L S:List (List Nat)):Prop where
 same:Same H H2
 l:H2 la=some (.dT (dOf L))
 s:H2 sa=some (.dT (dOf S))
 fl:H la=none
 fs:H sa=none
 ne:la≠sa
 mL:∀x,x∈L↔OrdN n x∧cost n (lf x)=(c:Int)
 mS:∀x,x∈S↔OrdN n x∧cost n (lf x)≤(c:Int)
 le:c≤C
 nL:L.length≤4 ^ c
 nS:S.length≤4 ^ (c+1)
structure LayB (H H2:Hp) (n c:Nat) (la sa lt:Addr) (ob:Obj) (L S T:List (List Nat)) (k0:Nat):Prop where
 same:Same H H2
 l:H2 la=some (.frz ob (.dT (dOf L)))
 s:H2 sa=some (.dT (dOf S))
 t:H2 lt=some (.dT (dOf T))
 r:Rnd n c S T
 nS:S.length≤4 ^ (c+1)+k0
 nT:T.length≤k0
noncomputable def N29:List Str:=["_law_order","_law_layer","_law_seen","_law_count","_law_later","_law_one_here","_law_n","_law_other"]
theorem sc29:zl N29 ["_law_order"] (za (top 29)):=fsM
theorem Jk (D:zy K mg "_law_layers" (top 29)) (G:Glo mg) (FS:FN P w K mg base 1 "_law_swap" ["_law_some","_law_n"] QC):FN P w K mg base 2 "_law_layers" ["_law_order"] ZP:=by
 refine FN.o D sc29 fun f cdv A outer s H vs Q E hr h=>?_
 obtain ⟨o,os,C,rfl,ho,h1,h5,hO,hC,hC7,q⟩:=h
 have hu:=z2N hr
 refine ⟨_,z8 (zk (i:=1) sc29.nd rfl (Or.inl rfl) (QT hu (QS rfl rfl G.tuple rfl G.range (z3 (zg zj rfl G.len zm (z3 (pv 0) z5)) z5)) qI))
  (z8 (zk (i:=2) sc29.nd rfl (Or.inl rfl) (zJ ZK rfl G.dict boot_dict (z3 (pv 1) z5)))
  (z8 (zk (i:=3) sc29.nd rfl (Or.inl rfl) zd)
  (z8 (jz PassesOwn.never (z0u (Z1 hu (zJ qa rfl G.tuple qC (z3 (pv 0) z5)) (pv 2)))
   (z8 (zk (i:=4) sc29.nd rfl (Or.inl rfl) JS)
   (z8 (jW PassesOwn.never rfl (JQ (pv 1)) (zK (i:=5) sc29.nd rfl (Or.inl rfl))
    (zi (jW PassesOwn.never rfl (jY rfl G.range (z3 zd (z3 (zr zV (zg zj rfl G.len zm (z3 (pv 0) z5)) zd) z5))) (zK (i:=6) sc29.nd rfl (Or.inl rfl))
     (z8 (zk (i:=7) sc29.nd rfl (Or.inl rfl) (zJ qa rfl G.tuple qC (z3 (zN FS hr rfl (z3 (zJ zT rfl G.list zP (z3 (pv 5) z5)) (z3 (pv 6) z5))) z5)))
     (zi (qj (z0u (Z1 hu (pv 7) (pv 2))) (z8 (QQ hu (pv 2) (pv 7) qI rfl) (zi (QQ hu (pv 4) (pv 7) qI rfl))) zE))))))
   (z8 (zk (i:=1) sc29.nd rfl (Or.inl rfl) (pv 4))
   (zi (zk (i:=3) sc29.nd rfl (Or.inl rfl) (zr zV (pv 3) zd)))))))
  (zi (zo (pv 3)))))),?_⟩
 generalize hn:os.length=n at *
 refine fun p hp=>?_
 have s1:=zb hp (.dT [])
 refine ⟨_,rfl,o,_,rfl,.inl (SqL.of (s1 _ _ ho)),n,by rw [zh,hn],by lia,fun t ht=>?_⟩
 have npt:p≠t:=fun z=>by rw [←z,z4] at ht;cases ht
 refine ⟨_,_,t,kk (List.range n),rfl,rfl,by rw [JX];exact z4,by rw [zf npt];exact z4,?_⟩
 have s2:=s1.trans (zb ht (.tup (((List.range n).map fun i:Nat=>(i:Int)).map V.int)))
 have s3:Same H (upd (upd (upd H p (.dT [])) t (.tup (((List.range n).map fun i:Nat=>(i:Int)).map V.int))) p (.dT [(kk (List.range n),.bl true)])):=fun b u e=>by
  rw [zf (zc e hp)]
  exact s2 _ _ e
 have hp3:(upd (upd (upd H p (.dT [])) t (.tup (((List.range n).map fun i:Nat=>(i:Int)).map V.int))) p (.dT [(kk (List.range n),.bl true)])) p=some (.dT (dOf [List.range n])):=z4
 generalize upd (upd (upd H p (.dT [])) t (.tup (((List.range n).map fun i:Nat=>(i:Int)).map V.int))) p (.dT [(kk (List.range n),.bl true)])=H3 at *
 refine ⟨_,rfl,p,_,_,rfl,hp3,fun p2 hp2=>?_⟩
 have s4:=zb hp2 (.dT [(kk (List.range n),.bl true)])
 have hp24:upd H3 p2 (.dT [(kk (List.range n),.bl true)]) p2=some (.dT (dOf [List.range n])):=z4
 have ne12:p≠p2:=zc hp3 hp2
 have m0:∀x,x∈[List.range n]↔OrdN n x∧cost n (lf x)=((0:Nat):Int):=fun x=>by
  rw [kj]
  exact ⟨fun e=>by rw [e];exact ⟨Z2 n,jo h1⟩,fun ⟨a,b⟩=>Zf h1 a (by rw [b];exact Int.le_refl _)⟩
 have m1:∀x,x∈[List.range n]↔OrdN n x∧cost n (lf x)≤((0:Nat):Int):=fun x=>by
  rw [kj]
  exact ⟨fun e=>by rw [e];exact ⟨Z2 n,by rw [jo h1];exact Int.le_refl _⟩,fun ⟨a,b⟩=>Zf h1 a b⟩
 have f2:H p2=none:=s3.free hp2
 refine ⟨fun m σ H2=>∃(la sa:Addr) (c:Nat) (L S:List (List Nat)) (x4 x5 x6 x7:Option V),σ=[some (.ref o),some (.ref la),some (.ref sa),some (.int (c:Int)),x4,x5,x6,x7]∧LayA H H2 n C la sa c L S∧m=C - c,
  ⟨C,p,p2,0,_,_,none,none,none,none,rfl,⟨s3.trans s4,s4 _ _ hp3,hp24,hp,f2,ne12,m0,m1,Nat.zero_le _,(by show 1≤4 ^ 0;decide),(by show 1≤4 ^ 1;decide)⟩,rfl⟩,?_⟩
 clear hp24 ne12 f2 s4 hp2 hp3 s3 s2 npt ht s1 hp
 rintro m σ H2 ⟨la,sa,c,L,S,x4,x5,x6,x7,rfl,A2,rfl⟩
 have ho2:=A2.same _ _ ho
 refine ⟨_,rfl,o,_,rfl,.inl ⟨SqL.of ho2,fun t2 ht2=>?_⟩⟩
 have s5:=zb ht2 (.tup (nv os))
 have et2:upd H2 t2 (.tup (nv os)) t2=some (.tup ((kk os).map kV)):=by rw [JX];exact z4
 refine ⟨_,rfl,sa,_,rfl,DGet.t (k:=kk os) (s5 _ _ A2.s) et2,_,rfl,?_⟩
 rw [Jp]
 by_cases hin:os∈S
 ·rw [kf hin]
  refine iteF ⟨_,rfl,?_⟩
  have hle:=((A2.mS os).mp hin).2
  have e:c=C:=by have:=A2.le;lia
  subst e
  exact q _ (A2.same.trans s5)
 ·rw [ke hin]
  refine iteT ?_
  have hcC:c < C:=by
   have:=A2.le
   have:¬cost n (lf os)≤(c:Int):=fun z=>hin ((A2.mS os).mpr ⟨hO,z⟩)
   lia
  have pw:4 ^ c≤4 ^ 7:=Nat.pow_le_pow_right (by decide) (by lia)
  have p1:4 ^ (c+1)=4 ^ c * 4:=Nat.pow_succ ..
  have p2':4 ^ (c+2)=4 ^ (c+1) * 4:=Nat.pow_succ ..
  refine ⟨fun σ' H'=>∃(la' sa':Addr) (L' S':List (List Nat)) (x4 x5 x6 x7:Option V),σ'=[some (.ref o),some (.ref la'),some (.ref sa'),some (.int ((c+1:Nat):Int)),x4,x5,x6,x7]∧LayA H H' n C la' sa' (c+1) L' S',
   fun σ' H' ⟨la',sa',L',S',y4,y5,y6,y7,e,A'⟩=>⟨C - (c+1),by lia,la',sa',c+1,L',S',y4,y5,y6,y7,e,A',rfl⟩,?_⟩
  have A3:Same H (upd H2 t2 (.tup (nv os))):=A2.same.trans s5
  have l3:=s5 _ _ A2.l
  have q3:=s5 _ _ A2.s
  generalize upd H2 t2 (.tup (nv os))=H3 at *
  refine fun lt hlt=>?_
  have s6:=zb hlt (.dT [])
  have hlt4:upd H3 lt (.dT []) lt=some (.dT (dOf [])):=z4
  have l4:=s6 _ _ l3
  have q4:=s6 _ _ q3
  have A4:=A3.trans s6
  have flt:H lt=none:=A3.free hlt
  have ne1:la≠lt:=zc l3 hlt
  have ne2:sa≠lt:=zc q3 hlt
  generalize upd H3 lt (.dT [])=H4 at *
  refine ⟨_,rfl,la,dOf L,rfl,l4,fun ob=>z04 (fun i σ H5=>∃(S' T:List (List Nat)) (x5 x6 x7:Option V),σ=[some (.ref o),some (.ref la),some (.ref sa),some (.int (c:Int)),some (.ref lt),x5,x6,x7]∧LayB H H5 n c la sa lt ob L S' T (4 * i)∧∀j x,j < i→L[j]?=some x→∀k,2≤k→k≤n→exch x (k - 1)∈S')
   ⟨S,[],x5,x6,x7,rfl,⟨fun b u e=>by rw [zf (zc e A2.fl)];exact A4 _ _ e,z4,by rw [zf A2.ne.symm];exact q4,by rw [zf ne1.symm];exact hlt4,Rnd.start A2.mS,by have:=A2.nS;lia,Nat.zero_le _⟩,fun j x hj=>absurd hj (by lia)⟩
   (fun i σ H5 _ ⟨_,_,_,_,_,_,B,_⟩=>B.l) ?_ ?_⟩
  ·rintro i b k v σ H5 hi ⟨S',T,y5,y6,y7,rfl,B,all⟩ hb
   obtain ⟨one,e1,e2⟩:=z2o hi
   subst e2
   have hone:=(A2.mL one).mp (kz e1)
   rw [JX] at hb
   have il:i < L.length:=(kd.mp e1).1
   have iL:i < 4 ^ c:=kE il A2.nL
   refine zF ?_
   have ho5:=B.same _ _ ho
   refine ⟨_,rfl,o,_,rfl,.inl (SqL.of ho5),_,_,rfl,rfl,2,_,rfl,⟨by decide,by decide,by rw [zh,hn];lia,by rw [zh,hn];lia⟩,?_⟩
   rw [zh,hn]
   refine qZ (lo:=2) (n:=(((n:Nat):Int)+1 - 2).toNat) (fun m σ H6=>∃(S2 T2:List (List Nat)) (z6 z7:Option V),σ=[some (.ref o),some (.ref la),some (.ref sa),some (.int (c:Int)),some (.ref lt),some (.ref b),z6,z7]∧LayB H H6 n c la sa lt ob L S2 T2 (4 * i+m)∧H6 b=some (.tup (nv one))∧(∀x,x∈S'→x∈S2)∧∀k,2≤k→k < 2+m→exch one (k - 1)∈S2)
    ⟨S',T,y6,y7,rfl,B,hb,fun _ h=>h,fun k h2 h3=>absurd h3 (by lia)⟩ ?_ ?_
   ·rintro m σ H6 hm ⟨S2,T2,z6,z7,rfl,B6,hb6,sub,all2⟩
    have hm4:m+2≤n:=by lia
    refine zF ?_
    refine ⟨_,rfl,b,_,rfl,.inr (SqT.of hb6),fun ll hll=>?_⟩
    have s7:=zb hll (.lst (nv one))
    have ek:(2:Int)+(m:Int)=((2+m:Nat):Int):=by lia
    refine ⟨_,rfl,ll,one,2+m,by (rw [ek];rfl),z4,by lia,by rw [hone.1.len];lia,?_⟩
    rw [Zu]
    have s8:=zb hll (.lst (nv (exch one (2+m - 1))))
    refine ⟨ll,_,rfl,.inl ⟨SqL.of z4,fun t8 ht8=>?_⟩⟩
    have s9:=s8.trans (zb ht8 (.tup (nv (exch one (2+m - 1)))))
    have e9:upd (upd H6 ll (.lst (nv (exch one (2+m - 1))))) t8 (.tup (nv (exch one (2+m - 1)))) t8=some (.tup ((kk (exch one (2+m - 1))).map kV)):=by rw [JX];exact z4
    have B9s:=s9 _ _ B6.s
    have B9t:=s9 _ _ B6.t
    have B9l:=s9 _ _ B6.l
    have B9:=B6.same.trans s9
    have b9:=s9 _ _ hb6
    generalize upd (upd H6 ll (.lst (nv (exch one (2+m - 1))))) t8 (.tup (nv (exch one (2+m - 1))))=H9 at *
    refine ⟨_,rfl,_,rfl,sa,_,rfl,DGet.t (k:=kk (exch one (2+m - 1))) B9s e9,_,rfl,?_⟩
    rw [Jp]
    have nS6:=B6.nS
    have nT6:=B6.nT
    by_cases hin2:exch one (2+m - 1)∈S2
    ·rw [kf hin2]
     refine iteF ⟨S2,T2,_,_,rfl,⟨B9,B9l,B9s,B9t,B6.r,by lia,by lia⟩,b9,sub,fun k h2 h3=>?_⟩
     by_cases z:k=2+m
     ·rw [z];exact hin2
     ·exact all2 k h2 (by lia)
    ·rw [ke hin2]
     refine iteT ?_
     have e47:(4:Nat) ^ 7=16384:=by decide
     have lS:(dOf S2).length < sizeLine:=by
      rw [ZF,sizeLine_eq]
      lia
     have lT:(dOf T2).length < sizeLine:=by
      rw [ZF,sizeLine_eq]
      lia
     refine ⟨_,rfl,_,rfl,sa,_,rfl,DPut.t (k:=kk (exch one (2+m - 1))) B9s e9 lS,?_⟩
     rw [Jq hin2]
     have nT:exch one (2+m - 1)∉T2:=fun z=>hin2 ((B6.r.t _).mp z).1
     have e10:upd H9 sa (.dT (dOf (S2++[exch one (2+m - 1)]))) t8=some (.tup ((kk (exch one (2+m - 1))).map kV)):=by rw [zf (Z7 e9 B9s nofun)];exact e9
     have t10:upd H9 sa (.dT (dOf (S2++[exch one (2+m - 1)]))) lt=some (.dT (dOf T2)):=by rw [zf ne2.symm];exact B9t
     refine ⟨_,rfl,_,rfl,lt,_,rfl,DPut.t (k:=kk (exch one (2+m - 1))) t10 e10 lT,?_⟩
     rw [Jq nT]
     refine ⟨S2++[exch one (2+m - 1)],T2++[exch one (2+m - 1)],_,_,rfl,⟨fun c' u e=>?_,?_,?_,z4,B6.r.more hone.1 hone.2 (by lia) (by lia) hin2,by rw [kh];show S2.length+1≤_;lia,by rw [kh];show T2.length+1≤_;lia⟩,?_,fun x hx=>kG _ (sub x hx),fun k h2 h3=>?_⟩
     ·rw [zf (zc e flt),zf (zc e A2.fs)]
      exact B9 _ _ e
     ·rw [zf ne1,zf A2.ne]
      exact B9l
     ·rw [zf ne2]
      exact z4
     ·rw [zf (Z7 b9 B9t nofun),zf (Z7 b9 B9s nofun)]
      exact b9
     ·by_cases z:k=2+m
      ·rw [z];exact kF _ (kj.mpr rfl)
      ·exact kG _ (all2 k h2 (by lia))
   ·rintro σ H6 ⟨S2,T2,z6,z7,rfl,B6,hb6,sub,all2⟩
    have nS6:=B6.nS
    have nT6:=B6.nT
    refine ⟨S2,T2,_,_,_,rfl,⟨B6.same,B6.l,B6.s,B6.t,B6.r,by lia,by lia⟩,fun j x hj ex k h2 hk=>?_⟩
    by_cases z:j=i
    ·subst z
     rw [e1] at ex
     cases ex
     exact all2 k h2 (by lia)
    ·exact sub _ (all j x (by lia) ex k h2 hk)
  ·rintro σ H5 ⟨S',T,y5,y6,y7,rfl,B,all⟩
   rw [ZF] at B all
   have F:=B.r.fin h1 A2.mL (fun x hx k h2 hk=>by
    obtain ⟨j,hj⟩:=List.mem_iff_getElem?.mp hx
    exact all j x (kd.mp hj).1 hj k h2 hk)
   have nS5:=B.nS
   have nT5:=B.nT
   have nL:=A2.nL
   refine ⟨_,rfl,_,rfl,_,_,rfl,rfl,lt,sa,T,S',_,_,_,_,rfl,⟨B.same,B.t,B.s,flt,A2.fs,ne2.symm,F.2,F.1,hcC,by lia,by lia⟩⟩
end
end My
set_option maxHeartbeats 4000000
namespace L2
open PySem PySem.Spec PyProof.Rows
def z0Q:V→List V→Hp→VK→Prop:=fun x vs H Q=>∃(l:Addr) (xs:List V) (i:Nat) (y:V),x=.ref l∧vs=[.int (i:Nat),y]∧H l=some (.lst xs)∧i≤xs.length∧xs.length≤1000∧Q .non (upd H l (.lst (xs.take i++y :: xs.drop i)))
theorem J0 {X:Cx}:MtM X "list.insert" z0Q:=by
 intro pins s σ H x vs v us Q I rx rv h
 obtain ⟨l,xs,i,y,rfl,rfl,hH,hi,hz,q⟩:=h
 cases rx
 cases rv with
 | cons r0 rv=>
  obtain ⟨u,rfl,ru⟩:=Vals.one rv
  obtain ⟨t,rfl⟩:=r0
  obtain ⟨z,its,n,r,hl,e⟩:=I.lstM hH
  have hfit:¬(!Builtin.List.listFitsIndex (i:Int))=true:=by
   have:Builtin.List.listFitsIndex (i:Int)=true:=fitsIndex_of (by lia) (Int.lt_of_le_of_lt (Int.ofNat_le.mpr (km hi hz)) (by decide))
   rw [this]
   exact ka
  have hs:its.toArray.size≤sizeLine:=by rw [kx,←hl];exact z
  generalize hj:((i:Nat):Int)=j at hfit
  have M:=PySem.AutoListH.list_insert_list_int_val_1 l its.toArray n j t u hfit hs
  refine call_meets F.slot_list_insert ⟨_,e,rfl⟩ F.entry_list_insert (F.args_list_insert_3 _ _ _) M ⟨e,?_⟩
  subst hj
  refine ⟨.non,_,I.lset (its':=its.take i++u :: its.drop i) hH e ?_ ((r.take i).append (.cons ru (r.drop i))) ?_,rfl,q⟩
  ·have hm:(if ((i:Nat):Int) < 0 then ((i:Int)+(its.toArray.size:Int)).toNat else min ((i:Nat):Int).toNat its.toArray.size)=i:=by
    rw [kq (by lia),kQ,kx]
    lia
   have key:∀k,k=i→((its.toArray.extract 0 k).push u++its.toArray.extract k)=(its.take i++u :: its.drop i).toArray:=by
    rintro k rfl
    apply Array.ext'
    simp
    rw [List.take_of_length_le (by rw [List.length_drop];lia)]
   exact key _ hm
  ·rw [kh,kH,List.length_take,List.length_drop,sizeLine_eq]
   lia
end L2
set_option maxHeartbeats 8000000
namespace L2
open PySem PySem.Spec PyProof.Rows
variable {X:Cx}
def rNeE (K:ko):R2:=fun x y H Q=>∃p q xs,x=.ref p∧y=.ref q∧SqL K H p xs∧SqL K H q []∧Q (.bl (!decide (xs=[]))) H
theorem z1W (hu:X.A.units < cLine):OpR X (compareOp .NotEq) (rNeE X.K):=by
 intro pins s σ H x y v u Q I rx ry h
 obtain ⟨p,q,xs,rfl,rfl,h1,h2,hq⟩:=h
 cases rx
 cases ry
 obtain ⟨its,r,pl,_⟩:=I.list h1
 obtain ⟨its2,r2,pl2,_⟩:=I.list h2
 cases r2
 cases r with
 | nil=>
  refine SeqAt.RcNeAt.lists (e:=fun _=>true) pl.isList pl2.isList rfl hu (fun j h1 _=>absurd h1 (by simp)) X.prog X.w X.xe _ ⟨.bl _,H,I,rfl,?_⟩
  simpa using hq
 | cons a b=>
  refine SeqAt.RcNeAt.lists_lengths pl.isList pl2.isList (by simp) hu X.prog X.w X.xe _ ⟨.bl _,H,I,rfl,?_⟩
  simpa using hq
theorem z12 {X:Cx}:OpR X (binaryOp .Add) (fun x y H Q=>∃i j k,x=.int i∧y=.int j∧i+j=k∧Q (.int k) H):=by
 intro pins s σ H x y v u Q I rx ry h
 obtain ⟨i,j,k,rfl,rfl,rfl,q⟩:=h
 exact zV pins s σ H _ _ v u Q I rx ry ⟨i,j,rfl,rfl,q⟩
theorem Jx {X:Cx} {K:ko} (hK:X.K=K):qK X (.builtin "len") (fun xs H Q=>∃p ys,xs=[.ref p]∧(SqL K H p ys∨SqT K H p ys)∧Q (.int ys.length) H):=by subst hK;exact zj
end L2
namespace My
open PySem PySem.Spec PyProof.Rows L2
variable {P:Program} {w:World} {K:ko} {mg:Str→Option Value} {base:Heap}
theorem z1R {H:Hp} {o:Addr} {os:List Nat} {n:Nat} {Q:VK} {E:XK} (ho:H o=some (.lst (nv os))) (hp:os.Perm (List.range n)) (h1:1≤n) (h9:n≤9)
  (h:∀ks d H',(ks.length:Int)=cost n (lf os)→Nums n ks→zC (List.range n) ks=os→ks.length≤50→Same H H'→H d=none→H' d=some (.lst (nv ks))→Q (.ref d) H'):JH [.ref o] H Q E:=by
 obtain ⟨ks,w1,w2,w3,w4⟩:=jt h1 hp
 obtain ⟨hl,b⟩:=qt hp
 have c:=Zg b
 have hk:ks.length≤50:=by lia
 exact ⟨o,os,ks,rfl,ho,by lia,by lia,by rw [hl];exact hp,by rw [hl];exact w1,by lia,fun d H' s hd hd'=>h ks d H' w2 w3 w4 hk s hd hd'⟩
theorem JR {os:List Nat} {i j:Nat} (h:os.Perm (List.range i)):(os.take j++i :: os.drop j).Perm (List.range (i+1)):=by
 refine List.perm_middle.trans ?_
 rw [List.take_append_drop,List.range_succ]
 exact (h.cons i).trans (List.perm_append_comm (l₁:=[i]) (l₂:=List.range i))
theorem z1Z (os:List Nat) (j i:Nat):(nv os).take j++.int (i:Nat) :: (nv os).drop j=nv (os.take j++i :: os.drop j):=by
 unfold nv iv
 rw [kC,kC,kL,kL,←List.map_take,←List.map_take,←List.map_drop,←List.map_drop]
theorem QW (l:List Nat):(nv l).all j4=true:=by
 unfold nv
 rw [List.all_map,List.all_eq_true]
 intro i _
 rfl
theorem z14 (k:Nat):∀l:List Nat,inV (.int (k:Int)) (nv l)=decide (k∈l)
 | []=>rfl
 | x :: l=>by
  have h:inV (.int (k:Int)) (nv (x :: l))=(eqV (.int (x:Int)) (.int (k:Int))||inV (.int (k:Int)) (nv l)):=rfl
  have e:eqV (.int (x:Int)) (.int (k:Int))=decide (k=x):=by
   show ((x:Int) == (k:Int))=decide (k=x)
   rw [Bool.eq_iff_iff,beq_iff_eq,decide_eq_true_iff]
   lia
  rw [h,z14 k l,e,Bool.eq_iff_iff,Bool.or_eq_true,decide_eq_true_iff,decide_eq_true_iff,decide_eq_true_iff,kw]
theorem Ju {lo:Int} {n:Nat} {g:TG} {tc:TT} {te:TE} {R:Hp→Prop} {H:Hp} {l:Addr} {σ0:L2.St} (Pv:Nat→List V→L2.St→Hp→Prop) (h0:Pv 0 [] σ0 (upd H l (.lst [])))
  (hs:∀(i:Nat) ys σ H,i < n→Pv i ys σ H→g (.int (lo+(i:Int))) σ H fun σ2 H4=>tc σ2 H4 fun b H5=>if b=true then te σ2 H5 fun v H6=>H6 l=some (.lst ys)∧ys.length < sizeLine∧∃m',m' < n - i∧m'=n - (i+1)∧i+1≤n∧Pv (i+1) (ys++[v]) σ2 (upd H6 l (.lst (ys++[v])))
   else ∃m',m' < n - i∧m'=n - (i+1)∧i+1≤n∧Pv (i+1) ys σ2 H5) (hd:∀ys σ H,Pv n ys σ H→R H):
  ∃W:Nat→Nat→List V→L2.St→Hp→Prop,(∃m,W 0 m [] σ0 (upd H l (.lst [])))∧∀i m ys σ' H2,W i m ys σ' H2→
   ((Itr lo n).stop i H2∧R H2)∨((Itr lo n).go i H2∧∀x H3,(Itr lo n).yld i H2 x H3→g x σ' H3 fun σ2 H4=>tc σ2 H4 fun b H5=>if b=true then te σ2 H5 fun v H6=>H6 l=some (.lst ys)∧ys.length < sizeLine∧∃m',m' < m∧W (i+1) m' (ys++[v]) σ2 (upd H6 l (.lst (ys++[v])))
    else ∃m',m' < m∧W (i+1) m' ys σ2 H5):=by
 refine ⟨fun i m ys σ H=>m=n - i∧i≤n∧Pv i ys σ H,⟨n,by simp,Nat.zero_le _,h0⟩,?_⟩
 rintro i m ys σ H ⟨rfl,hi,p⟩
 by_cases hlt:i < n
 ·refine .inr ⟨hlt,fun x H' y=>?_⟩
  obtain ⟨e,e2⟩:=y
  subst e
  subst e2
  exact hs i ys σ _ hlt p
 ·have e:i=n:=by lia
  subst e
  exact .inl ⟨kc _,hd ys σ H p⟩
theorem z0g {n:Nat} {os:List Nat} (h:os.Perm (List.range n)) (h1:1≤n):¬(iv os++[0]).Perm (iv (List.range (iv os++[0]).length)):=fun p=>by
 have nd:(iv (List.range (iv os++[0]).length)).Nodup:=by
  unfold iv
  rw [List.nodup_iff_pairwise_ne,List.pairwise_map]
  exact List.Pairwise.imp (fun h=>by lia) List.pairwise_lt_range
 have nd2:=p.nodup_iff.mpr nd
 have h0:0∈os:=h.mem_iff.mpr (List.mem_range.mpr (by lia))
 have h0':(0:Int)∈iv os:=kW.mpr ⟨0,h0,rfl⟩
 rw [List.nodup_append] at nd2
 exact nd2.2.2 0 h0' 0 (kj.mpr rfl) rfl
theorem z1s:¬([1]:List Int).Perm (iv (List.range 1)):=fun p=>absurd (p.mem_iff.mp (kj.mpr rfl:(1:Int)∈[1])) (by decide)
theorem z1r:¬([0,2]:List Int).Perm (iv (List.range 2)):=fun p=>absurd (p.mem_iff.mp (by decide:(2:Int)∈[0,2])) (by decide)
theorem z1t {n:Nat} {os:List Nat} {H:Hp} {l:Addr} (h:os.Perm (List.range n)) (h1:1≤n) (h9:n≤9) (hl:H l=some (.lst (nv os++[.int 0]))):BadO H (.ref l):=by
 have ln:os.length=n:=by rw [h.length_eq,List.length_range]
 by_cases z:n=9
 ·exact .long hl (.inr (by rw [kh,zh];show 9 < os.length+1;lia))
 ·refine .num (ns:=iv os++[0]) ?_ ?_ ?_ (z0g h h1)
  ·rw [hl,kC];rfl
  ·rw [kh];show 1≤_+1;lia
  ·rw [kh,Q5];show os.length+1≤9;lia
theorem z2J {c:TT} {t u:TS} {D:Ends} {σ:L2.St} {H:Hp} (hc:∀Q:Bool→Hp→Prop,(∀H1,Same H H1→Q false H1)→c σ H Q) (rest:∀H1,Same H H1→u D σ H1):tIfS c t u D σ H:=
 hc _ fun H1 s=>iteF (rest H1 s)
theorem z2G {D:Ends} {σ:L2.St} {H:Hp} (h:D.nx σ H):z1D D σ H:=h
theorem z1L {t u:TS} {D:Ends} {σ:L2.St} {H:Hp} (h:t { D with nx:=u D } σ H):tSeq t u D σ H:=h
theorem jQ {H:Hp} {a:Addr} {xs:List V} (h:H a=some (.tup xs)):∀{as:List Addr} {ts:List (List V)},qb H as ts→qb H (as++[a]) (ts++[xs])
 | _,_,.nil=>.cons h .nil
 | _,_,.cons h0 t=>.cons h0 (jQ h t)
theorem qP {H H':Hp} (k:∀c xs,H c=some (.tup xs)→H' c=some (.tup xs)):∀{as:List Addr} {ts:List (List V)},qb H as ts→qb H' as ts
 | _,_,.nil=>.nil
 | _,_,.cons h0 t=>.cons (k _ _ h0) (qP k t)
theorem ZM {H:Hp} {a:Addr} {xs:List V} (h:H a=some (.tup xs)):∀n,qb H (List.replicate n a) (List.replicate n xs)
 | 0=>.nil
 | n+1=>.cons h (ZM h n)
theorem JB {H:Hp} {as:List Addr} {ts:List (List V)} (h:qb H as ts):as.length=ts.length:=Paired.length h
noncomputable def N31:List Str:=["_law_script","_law_town_here","_law_order","_law_k","_law_given_order","_law_told_here","_law_rings","_law_seen","_law_ring","_law_away","_law_bads"]
theorem sc31:zl N31 ["_law_script"] (za (top 31)):=fsM
noncomputable def ZI:Scope:=match (zx (top 31)).getD 6 (.Pass ⟨0,0,0,0⟩) with
 | .If (.Compare (.ListComp _ _ s _) _ _ _) _ _ _=>s
 | _=>za (top 31)
noncomputable def QY:List (Str × NameKind):=[(".0",.local),("_law_n",.local),("len",.globalImplicit),("_law_order",.cell)]
noncomputable def cl31 (L:Addr):List (Str × Addr):=[("_law_order",L+1)]
noncomputable def N31a:List Str:=["_law_n","_law_order"]
theorem z1p (f:Addr) (cdv:Value) (L:Addr):closureFor ZI (envOfC "law" (za (top 31)) L f cdv)=pure (cl31 L):=by rfl
theorem z1P (f:Addr) (cdv:Value) (L:Addr):(relabel ZI (envOfC "law" (za (top 31)) L f cdv)).names=QY:=by rfl
theorem z2I:N31a.Nodup:=by trivial
theorem z2T {P:Program} {w:World} {K:ko} {mg:Str→Option Value} {base:Heap} {f:Addr} {cdv:Value} {A:Around} {outer:List Env} {s:Shared} {H:Hp} {E:XK}:
  qc (cxOf CX0 P w K mg base N31 "law" (za (top 31)) f cdv A outer s H E).nox N31a 1 [2] ZI (cl31 s.heap.objs.size) where
 clos:=z1p f cdv s.heap.objs.size
 nocell:=by trivial
 kind:=rfl
 names:=by trivial
 sub:=fun x c e=>by
  have hm:=PySem.mem_of_lookup e
  simp only [cl31,kw,Prod.mk.injEq,kl,or_false] at hm
  obtain ⟨rfl,rfl⟩:=hm
  rfl
 has:=fun x h=>by
  have e:=z1P f cdv s.heap.objs.size
  have h:QY.lookup x=some .cell∨QY.lookup x=some .free:=by rw [←e];exact h
  have:x="_law_order":=by
   rcases h with h | h
   ·have hm:=PySem.mem_of_lookup h
    simp only [QY,kw,Prod.mk.injEq,kl,or_false] at hm
    rcases hm with z | z | z | z
    all_goals first | exact z.1 | exact z.2.elim | cases z.2
   ·have hm:=PySem.mem_of_lookup h
    simp only [QY,kw,Prod.mk.injEq,kl,or_false] at hm
    rcases hm with z | z | z | z
    all_goals first | exact z.2.elim | cases z.2
  subst this
  exact ⟨_,rfl⟩
 len:=rfl
 free:=fun j x e=>by
  match j,e with
  | 0,e=>
   cases e
   refine ⟨2,rfl,rfl,rfl,rfl,fun c h=>?_⟩
   exact h
  | j+1,e=>exact absurd e (by rw [List.getElem?_eq_none (by show 2≤1+(j+1);lia)];exact nofun)
noncomputable def ZH:Scope:=match (zx (top 31)).getD 10 (.Pass ⟨0,0,0,0⟩) with
 | .Assign _ (.ListComp _ _ s _) _=>s
 | _=>za (top 31)
noncomputable def QX:List (Str × NameKind):=[(".0",.local),("_law_k",.local),("_law_order",.cell)]
noncomputable def N31b:List Str:=["_law_k","_law_order"]
theorem z1o (f:Addr) (cdv:Value) (L:Addr):closureFor ZH (envOfC "law" (za (top 31)) L f cdv)=pure (cl31 L):=by rfl
theorem z1O (f:Addr) (cdv:Value) (L:Addr):(relabel ZH (envOfC "law" (za (top 31)) L f cdv)).names=QX:=by rfl
theorem z2H:N31b.Nodup:=by trivial
theorem z2S {P:Program} {w:World} {K:ko} {mg:Str→Option Value} {base:Heap} {f:Addr} {cdv:Value} {A:Around} {outer:List Env} {s:Shared} {H:Hp} {E:XK}:
  qc (cxOf CX0 P w K mg base N31 "law" (za (top 31)) f cdv A outer s H E).nox N31b 1 [2] ZH (cl31 s.heap.objs.size) where
 clos:=z1o f cdv s.heap.objs.size
 nocell:=by trivial
 kind:=rfl
 names:=by trivial
 sub:=fun x c e=>by
  have hm:=PySem.mem_of_lookup e
  simp only [cl31,kw,Prod.mk.injEq,kl,or_false] at hm
  obtain ⟨rfl,rfl⟩:=hm
  rfl
 has:=fun x h=>by
  have e:=z1O f cdv s.heap.objs.size
  have h:QX.lookup x=some .cell∨QX.lookup x=some .free:=by rw [←e];exact h
  have:x="_law_order":=by
   rcases h with h | h
   ·have hm:=PySem.mem_of_lookup h
    simp only [QX,kw,Prod.mk.injEq,kl,or_false] at hm
    rcases hm with z | z | z
    all_goals first | exact z.1 | exact z.2.elim | cases z.2
   ·have hm:=PySem.mem_of_lookup h
    simp only [QX,kw,Prod.mk.injEq,kl,or_false] at hm
    rcases hm with z | z | z
    all_goals first | exact z.2.elim | cases z.2
  subst this
  exact ⟨_,rfl⟩
 len:=rfl
 free:=fun j x e=>by
  match j,e with
  | 0,e=>
   cases e
   refine ⟨2,rfl,rfl,rfl,rfl,fun c h=>?_⟩
   exact h
  | j+1,e=>exact absurd e (by rw [List.getElem?_eq_none (by show 2≤1+(j+1);lia)];exact nofun)
theorem ndB:(["_law_bad"]:List Str).Nodup:=by decide
section
def JG (K:ko):Sp:=fun vs H Q _=>∃(a:Addr) (ns:List Int),vs=[.ref a]∧Scr K H a (ns.map V.int)∧ns.length≤63∧∀H',Q (.bl true) H'
def z2r (n:Nat) (os ks:List Nat) (a t fl g d:Addr) (i:Nat) (σ:L2.St) (H:Hp):Prop:=
 ∃(kv x8:Option V) (sa:Addr) (sn:List Nat),σ=[some (.ref a),some (.ref t),some (.ref fl),kv,some (.ref g),some (.ref d),some (.int ((rgs i (lf os):Nat):Int)),some (.ref sa),x8,none,none]∧H fl=some (.lst (nv os))∧H d=some (.lst (nv ks))∧H sa=some (.lst (nv sn))∧Seen (lf os) i sn∧sn.length≤9 * i
theorem z2g {f:Addr} {fd:FuncData} (D:Fun K "law" "law" (top 31) f fd) (G:Glo mg) (FT:FN P w K mg base 1 "_law_town" ["_law_script"] (z0n K)) (FD:FN P w K mg base 1 "_law_draw" ["_law_script","_law_town_here","_law_many"] (z0q K))
  (FW:FN P w K mg base 3 "fewest_swaps" ["order"] JH) (FH:FN P w K mg base 2 "_law_wholes" ["_law_thing"] ZO) (FM:FN P w K mg base 1 "_law_moved" ["_law_order","_law_many"] QD) (FL:FN P w K mg base 2 "_law_layers" ["_law_order"] ZP)
  (FO:FN P w K mg base 5 "_law_told" ["_law_way","_law_some"] z0o) (FR:FN P w K mg base 1 "_law_refused" ["_law_word_here"] z1I):
  FnOk P w K mg base CX0 6 f fd ["_law_script"] (JG K):=by
 refine D.ok sc31 (fun vs H Q E h=>by obtain ⟨a,ns,rfl,_⟩:=h;rfl) (fun cdv A outer s H vs Q E hr h=>?_)
 obtain ⟨a,ns,rfl,hS,hns,q⟩:=h
 have hr1:=hr.mono (show 1≤5 by decide)
 have hr2:=hr.mono (show 2≤5 by decide)
 have hr3:=hr.mono (show 3≤5 by decide)
 have hu:(A.deeper (envOfC "law" (za (top 31)) s.heap.objs.size f cdv)).units < cLine:=hr.units0
 have hu3:(A.deeper (envOfC "law" (za (top 31)) s.heap.objs.size f cdv)).units+3 < cLine:=by have:=hr.un;lia
 refine ⟨_,z8 (zk (i:=1) sc31.nd rfl (Or.inl rfl) (zN FT hr1 rfl (z3 (pv 0) z5)))
  (z8 (zk (i:=2) sc31.nd rfl (Or.inr rfl) (zH z5))
  (z8 (jW PassesOwn.never rfl (qS rfl G.range (z3 (zr z12 zd (zN FD hr1 rfl (z3 (pv 0) (z3 (pv 1) (z3 zd z5))))) z5)) (zK (i:=3) sc31.nd rfl (Or.inl rfl))
   (zi (Zx (Z0 F.plainAttrs_list F.slot_list_insert F.type_list_insert J0 (pv 2) (z3 (zN FD hr1 rfl (z3 (pv 0) (z3 (pv 1) (z3 (zr zV (zg zj rfl G.len zm (z3 (pv 2) z5)) zd) z5)))) (z3 (pv 3) z5))))))
  (z8 (zk (i:=4) sc31.nd rfl (Or.inl rfl) (zJ zT rfl G.list zP (z3 (pv 2) z5)))
  (z8 (zk (i:=5) sc31.nd rfl (Or.inl rfl) (zN FW hr3 rfl (z3 (pv 4) z5)))
  (z8 (qj (PW.pt (QN (qm (qE (zN FH hr2 rfl (z3 (pv 5) z5)))) (QN (zt (z0x hu) (zN FM hr1 rfl (z3 (pv 2) (z3 (pv 5) z5))) (pv 2) (zA _)) (ZS (zt (z0x hu) (pv 4) (pv 2) (zA _)))))) (zi (zo qI)) zE)
  (z8 (qj (zt (z1W hu) (qu (N:=N31a) (nt:=1) (ix:=[2]) (cl:=cl31 s.heap.objs.size) rfl z2T (qx (pv 5)) (fun _ _ _ _=>zK (i:=0) z2I rfl (Or.inl rfl))
    (fun _ _ _ _=>jy (PW.pt (QN (zt z1X (pv 0) zd (zA _)) (ZS (zt z10 (pv 0) (zg (Jx (K:=K) rfl) rfl G.len zm (z3 (pv 1) z5)) (zA _)))))) (fun _ _ _ _=>pv 0)) (zH z5) (zA _)) (zi (zo qI)) zE)
  (z8 (zk (i:=6) sc31.nd rfl (Or.inl rfl) zd)
  (z8 (zk (i:=7) sc31.nd rfl (Or.inl rfl) (zH z5))
  (z8 (jW PassesOwn.never rfl (qS rfl G.range (z3 (zg zj rfl G.len zm (z3 (pv 2) z5)) z5)) (zK (i:=3) sc31.nd rfl (Or.inl rfl))
   (zi (qj (zt qG (pv 3) (pv 7) rfl)
    (z8 (zk (i:=8) sc31.nd rfl (Or.inl rfl) (zH (z3 (pv 3) z5)))
    (z8 (jz PassesOwn.never (zt Qh (zL zp (pv 2) (zL zp (pv 8) (z0X Qw zd) (fun _ _=>rfl)) (fun _ _=>rfl)) (pv 3) (zA _))
     (zi (Zx (Z0 F.plainAttrs_list F.slot_list_append F.type_list_append qU (pv 8) (z3 (zL zp (pv 2) (zL zp (pv 8) (z0X Qw zd) (fun _ _=>rfl)) (fun _ _=>rfl)) z5)))))
    (z8 (zk (i:=7) sc31.nd rfl (Or.inl rfl) (zr Z3 (pv 7) (pv 8)))
    (zi (zk (i:=6) sc31.nd rfl (Or.inl rfl) (zr zV (pv 6) (zJ ZJ rfl G.int jM (z3 (jh (qy qG zd (pv 8) rfl) (jf (qy z10 (zg zj rfl G.len zm (z3 (pv 8) z5)) zd (zA _)))) z5)))))))) zE)))
  (z8 (qQ (i:=9) (N:=N31b) (nt:=1) (ix:=[2]) (cl:=cl31 s.heap.objs.size) rfl sc31.nd rfl (Or.inl rfl) z2S (jY rfl G.range (z3 zd (z3 (zg zj rfl G.len zm (z3 (pv 2) z5)) z5))) (fun _ _ _ _=>zK (i:=0) z2H rfl (Or.inl rfl))
   (fun _ _ _ _=>jy (zt Qh (zL (jE (K:=K) rfl) (pv 1) (pv 0) (fun _ _=>rfl)) (pv 0) (zA _))) (fun _ _ _ _=>pv 0))
  (z8 (qj (zt Qh (zg zj rfl G.len zm (z3 (pv 5) z5)) (zr zV (zg zj rfl G.len zm (z3 (pv 9) z5)) (pv 6)) (zA _)) (zi (zo qI)) zE)
  (z8 (qj (PW.pt (z0t (zt z1X (zg zj rfl G.len zm (z3 (pv 2) z5)) zd (zA _)) (QO (zt Qh (zN FL hr2 rfl (z3 (pv 2) z5)) (zg zj rfl G.len zm (z3 (pv 5) z5)) (zA _))))) (zi (zo qI)) zE)
  (z8 (zk (i:=10) sc31.nd rfl (Or.inl rfl) (zH (z3 jg (z3 (zJ qa rfl G.tuple qC (z3 (pv 2) z5)) (z3 (zH z5) (z3 (zr Z3 (pv 2) (zH (z3 zd z5))) (z3 (zH (z3 zd z5)) (z3 (zH (z3 qI z5)) (z3 (zH (z3 zd (z3 zd z5)))
   (z3 (zU rfl rfl G.list rfl G.range (z3 zd z5)) (z3 (zH (z3 zS z5)) (z3 JT z5))))))))))))
  (zi (zo (qy (z11 hu3) (qu (N:=["_law_bad"]) (nt:=1) (ix:=[]) (cl:=[]) rfl (qc.plain (by trivial) (by trivial) rfl (by trivial) rfl) (qx (pv 10)) (fun _ _ _ _=>zK (i:=0) ndB rfl (Or.inl rfl)) (fun _ _ _ _=>Zw)
   (fun _ _ _ _=>zN FO hr rfl (z3 zd (z3 (pv 0) z5)))) (zr z1V (zH (z3 (zN FR hr1 rfl (z3 zS z5)) z5)) zd) (zA _))))))))))))))))),?_⟩
 refine ⟨_,rfl,a,ns,rfl,hS,by lia,fun t H1 s1 ht hT1=>?_⟩
 have hS1:Scr K H1 a (ns.map V.int):=hS.keep fun o u e=>s1 _ _ e
 refine ⟨by show 0≤sizeLine;decide,fun fl hfl=>?_⟩
 have s2:=zb hfl (.lst [])
 have hS2:Scr K (upd H1 fl (.lst [])) a (ns.map V.int):=hS1.keep fun o u e=>s2 _ _ e
 have hT2:=s2 _ _ hT1
 have nft:fl≠t:=(zc hT1 hfl).symm
 have hF2:upd H1 fl (.lst []) fl=some (.lst (nv [])):=z4
 generalize upd H1 fl (.lst [])=H2 at *
 refine ⟨_,rfl,_,rfl,a,t,ns,0,ns,_,rfl,hS2,by lia,rfl,hT2,by decide,by decide,by decide,fun j cells3 H3 j0 j9 hc3 hT3 kp3=>?_⟩
 obtain ⟨n,hn⟩:∃n:Nat,(1:Int)+j=(n:Int):=⟨(1+j).toNat,by lia⟩
 have n1:1≤n:=by lia
 have n9:n≤9:=by lia
 refine ⟨1,j,(n:Int),rfl,rfl,hn,?_⟩
 have hS3:=hS2.keep1 kp3 hT2
 have hF3:=kp3 _ _ hF2 nft
 clear hn j0 j9 hS hS1 hS2 hT1 hT2 kp3 s1 s2 hF2 ht hfl
 refine ⟨_,rfl,by lia,by lia,qZ (lo:=0) (n:=((n:Nat):Int).toNat) (fun i σ H4=>∃(v:Option V) (cells4:List Int) (os:List Nat),σ=[some (.ref a),some (.ref t),some (.ref fl),v,none,none,none,none,none,none,none]∧H4 fl=some (.lst (nv os))∧os.Perm (List.range i)∧cells4.length=ns.length∧H4 t=some (.lst (qd (1+i) cells4))∧Scr K H4 a (ns.map V.int))
  ⟨none,cells3,[],rfl,hF3,List.Perm.refl _,hc3,hT3,hS3⟩ ?_ ?_⟩
 ·rintro i σ H4 hi ⟨v,cells4,os,rfl,hf4,hp,hc4,hT4,hS4⟩
  have hil:i < n:=by lia
  have hol:os.length=i:=by rw [hp.length_eq,List.length_range]
  refine zF ?_
  refine ⟨_,rfl,.inl ⟨rfl,_,SqL.of hf4⟩,_,rfl,_,rfl,_,rfl,fl,_,rfl,.inl (SqL.of hf4),_,_,rfl,rfl,a,t,ns,1+i,cells4,_,rfl,hS4,by lia,hc4,hT4,by lia,by rw [zh];lia,by rw [zh];lia,fun j cells5 H5 j0 j1 hc5 hT5 kp5=>?_⟩
  rw [zh] at j1
  have ej:j=((j.toNat:Nat):Int):=by lia
  have hf5:=kp5 _ _ hf4 nft
  refine ⟨_,rfl,fl,nv os,j.toNat,.int (0+(i:Int)),rfl,by rw [←ej],hf5,by rw [zh];lia,by rw [zh];lia,?_⟩
  rw [show (0:Int)+(i:Int)=((i:Nat):Int) by lia,z1Z]
  exact ⟨_,cells5,_,rfl,z4,JR hp,hc5,by rw [zf nft.symm];exact hT5,(hS4.keep1 kp5 hT4).keep fun o u e=>by rw [zf (Z7 e hf5 nofun)];exact e⟩
 rintro σ H4 ⟨v,cells4,os,rfl,hf4,hp,hc4,hT4,hS4⟩
 rw [show ((n:Nat):Int).toNat=n by lia] at hp
 clear hS4 hT4 hc4 hS3 hT3 hc3 hF3 nft
 obtain ⟨hol,B⟩:=qt hp
 refine ⟨_,rfl,fl,_,rfl,.inl (SqL.of hf4),fun g hg=>?_⟩
 have s5:=zb hg (.lst (nv os))
 refine ⟨_,rfl,z1R z4 hp n1 n9 fun ks d H6 hk1 hk2 hk3 hk4 s6 hd h6=>?_⟩
 have f6:=s6 _ _ (s5 _ _ hf4)
 have g6:=s6 _ _ (z4:upd H4 g (.lst (nv os)) g=some (.lst (nv os)))
 refine ⟨_,rfl,d,ks,rfl,h6,by lia,fun H7 s7=>⟨_,rfl,iteF ?_⟩⟩
 refine ⟨_,rfl,_,rfl,fl,d,os,ks,rfl,s7 _ _ f6,by lia,s7 _ _ h6,by rw [hol];exact hk2,fun m H8 s8 h8=>?_⟩
 rw [hol,hk3] at h8
 have s78:=s7.trans s8
 have f8:=s78 _ _ f6
 have d8:=s78 _ _ h6
 refine ⟨_,rfl,m,fl,iv os,rfl,rfl,SqL.of h8,SqL.of f8,_,rfl,iteF ?_⟩
 refine ⟨_,rfl,_,rfl,g,fl,iv os,rfl,rfl,SqL.of (s78 _ _ g6),SqL.of f8,_,rfl,iteF ?_⟩
 clear s78 s7 s8 h8 f6 g6 h6 s6 hd s5 hg hf4
 refine ⟨_,rfl,d,rfl,⟨_,SqL.of d8⟩,fun bl hbl=>zY (K:=K) (a:=d) (xs:=nv ks) (fun i ys σ H9=>(∃x:Option V,σ=[x,some (.ref fl)])∧ys=[]∧Same H8 H9∧H9 bl=some (.lst ys))
  ⟨⟨none,rfl⟩,rfl,zb hbl _,z4⟩ (fun i ys σ H9 _ ⟨_,_,s9,_⟩=>s9.seq (SqL.of d8)) ?_ ?_⟩
 ·rintro i x ys σ H9 hi ⟨⟨b,rfl⟩,rfl,s9,hb9⟩
  have hil:i < ks.length:=by have:=(kd.mp hi).1;rw [zh] at this;exact this
  rw [qf hil] at hi
  cases hi
  have hin:ks.getD i 0∈ks:=by rw [List.getD_eq_getElem?_getD,kD hil];exact List.getElem_mem hil
  have hb:=hk2 _ hin
  refine zF ?_
  refine ⟨_,rfl,_,_,rfl,rfl,false,congrArg V.bl (ke (by lia)),iteF ?_⟩
  exact ⟨_,rfl,_,rfl,fl,_,rfl,.inl (SqL.of (s9 _ _ f8)),_,_,rfl,rfl,false,congrArg V.bl (ke (by rw [zh];lia)),iteF ⟨ks.length - (i+1),by rw [zh];lia,by rw [zh],by rw [zh];lia,⟨_,rfl⟩,rfl,s9,hb9⟩⟩
 rintro ys σ H9 ⟨_,rfl,s9,hb9⟩
 refine ⟨by show 0≤sizeLine;decide,fun e he=>?_⟩
 have s9':=zb he (.lst [])
 have s10:=s9.trans s9'
 refine ⟨bl,e,[],rfl,rfl,SqL.of (s9' _ _ hb9),SqL.of z4,false,rfl,iteF ?_⟩
 have f10:=s10 _ _ f8
 have d10:=s10 _ _ d8
 generalize upd H9 e (.lst [])=H10 at *
 clear s9 s9' s10 hb9 hbl he f8 d8
 refine ⟨by show 0≤sizeLine;decide,fun sl hsl=>?_⟩
 have s11:=zb hsl (.lst [])
 refine ⟨_,rfl,fl,_,rfl,.inl (SqL.of (s11 _ _ f10)),_,rfl,by rw [zh];lia,by rw [zh];lia,?_⟩
 rw [zh,hol]
 refine qZ (lo:=0) (n:=((n:Nat):Int).toNat) (z2r n os ks a t fl g d) ⟨v,none,sl,[],rfl,s11 _ _ f10,s11 _ _ d10,z4,JK _,kc _⟩ ?_ ?_
 ·rintro i σ H12 hi ⟨kv,x8,sa,sn,rfl,f12,d12,a12,hsn,hln⟩
  have hin:i < n:=by lia
  refine zF ?_
  rw [show (0:Int)+(i:Int)=((i:Nat):Int) by lia]
  refine ⟨_,rfl,_,rfl,sa,_,rfl,.inl (SqL.of a12),rfl,QW _,_,rfl,?_⟩
  rw [kr rfl,z14]
  by_cases hm:i∈sn
  ·rw [kf hm]
   obtain ⟨h1,h2⟩:=JJ hsn hm
   refine iteF ⟨some (.int (i:Int)),x8,sa,sn,?_,f12,d12,a12,h1,by lia⟩
   rw [h2]
   rfl
  rw [ke hm]
  refine iteT ?_
  obtain ⟨T,t1,t2,te,tl⟩:=z00 B hin
  obtain ⟨h1,h2⟩:=JL B hin hsn hm t1 te tl
  refine ⟨_,rfl,by show 1≤sizeLine;decide,fun rl hrl=>?_⟩
  have s13:=zb hrl (.lst [.int ((i:Nat):Int)])
  have nf:fl≠rl:=zc f12 hrl
  have ndd:d≠rl:=zc d12 hrl
  have na:sa≠rl:=zc a12 hrl
  refine ⟨fun m σ H14=>∃j,1≤j∧j≤T∧m=T - j∧σ=[some (.ref a),some (.ref t),some (.ref fl),some (.int (i:Int)),some (.ref g),some (.ref d),some (.int ((rgs i (lf os):Nat):Int)),some (.ref sa),some (.ref rl),none,none]∧H14 rl=some (.lst (nv (zM (lf os) i j)))∧H14 fl=some (.lst (nv os))∧H14 d=some (.lst (nv ks))∧H14 sa=some (.lst (nv sn)),
   ⟨T - 1,1,kc _,t1,rfl,rfl,z4,s13 _ _ f12,s13 _ _ d12,s13 _ _ a12⟩,?_⟩
  clear f12 d12 a12 s13
  rintro m σ H14 ⟨j,j1,j2,rfl,rfl,r14,f14,d14,a14⟩
  obtain ⟨j',rfl⟩:∃j',j=j'+1:=⟨j - 1,by lia⟩
  have elast:atI (nv (zM (lf os) i (j'+1))) (-1)=some (.int ((it (lf os) j' i:Nat):Int)):=by rw [jV,jk];exact z0h _ _
  have hlt:=JZ B.lt j' i hin
  have enext:os.getD (it (lf os) j' i) 0=it (lf os) (j'+1) i:=by rw [z19,qk (by lia) 0]
  have eat:atI (nv os) ((it (lf os) j' i:Nat):Int)=some (.int ((it (lf os) (j'+1) i:Nat):Int)):=by rw [←enext];exact zq (qf (by lia))
  refine ⟨_,rfl,_,rfl,_,rfl,rl,_,_,_,rfl,rfl,SqL.of r14,elast,fl,_,_,_,rfl,rfl,SqL.of f14,eat,_,rfl,rfl,_,rfl,?_⟩
  by_cases z:it (lf os) (j'+1) i=i
  ·have eT:j'+1=T:=by
    by_cases y:j'+1 < T
    ·exact absurd z (tl (j'+1) (by lia) y)
    ·lia
   rw [z,kf rfl]
   refine iteF ?_
   rw [eT] at r14
   have lr:=ZQ (lf os) i T
   refine ⟨_,rfl,_,rfl,sa,rl,_,_,rfl,rfl,a14,r14,by rw [zh,zh,lr,sizeLine_eq];lia,fun sb hsb=>?_⟩
   have s15:=zb hsb (.lst (nv sn++nv (zM (lf os) i T)))
   have b15:upd H14 sb (.lst (nv sn++nv (zM (lf os) i T))) sb=some (.lst (nv (sn++zM (lf os) i T))):=by rw [jk];exact z4
   generalize upd H14 sb (.lst (nv sn++nv (zM (lf os) i T)))=H15 at *
   have r15:=s15 _ _ r14
   have e0:inV (.int 0) (nv (zM (lf os) i T))=decide (0∈zM (lf os) i T):=z14 0 _
   have fin:∀b:Bool,(b=true↔(0∉zM (lf os) i T∧1 < T))→z2r n os ks a t fl g d (i+1) [some (.ref a),some (.ref t),some (.ref fl),some (.int (i:Int)),some (.ref g),some (.ref d),some (.int (((rgs i (lf os):Nat):Int)+if b then 1 else 0)),some (.ref sb),some (.ref rl),none,none] H15:=fun b hb=>by
    refine ⟨some (.int (i:Int)),some (.ref rl),sb,sn++zM (lf os) i T,?_,s15 _ _ f14,s15 _ _ d14,b15,h1,by rw [kh,lr];lia⟩
    rw [h2]
    cases b with
    | false=>rw [kq (fun y=>ka (hb.mpr y))];rfl
    | true=>rw [kr (hb.mp rfl)];rfl
   refine ⟨_,rfl,_,rfl,rl,_,rfl,.inl (SqL.of r15),rfl,QW _,_,rfl,?_⟩
   rw [kr rfl,e0]
   by_cases y:0∈zM (lf os) i T
   ·rw [kf y]
    refine iteF ⟨false,rfl,_,_,rfl,rfl,?_⟩
    exact fin false ⟨fun h=>absurd h ka,fun h=>absurd y h.1⟩
   ·rw [ke y]
    refine iteT ⟨_,rfl,rl,_,rfl,.inl (SqL.of r15),_,_,rfl,rfl,_,rfl,_,_,rfl,rfl,?_⟩
    refine fin _ ?_
    rw [decide_eq_true_iff,zh,lr]
    exact ⟨fun h=>⟨y,by lia⟩,fun h=>by have:=h.2;lia⟩
  ·have hjT:j'+1≠T:=fun e=>z (by rw [e];exact te)
   rw [ke (fun q=>z (by have:=V.int.inj q;lia))]
   refine iteT ⟨fun σ' H'=>σ'=[some (.ref a),some (.ref t),some (.ref fl),some (.int (i:Int)),some (.ref g),some (.ref d),some (.int ((rgs i (lf os):Nat):Int)),some (.ref sa),some (.ref rl),none,none]∧H' rl=some (.lst (nv (zM (lf os) i (j'+2))))∧H' fl=some (.lst (nv os))∧H' d=some (.lst (nv ks))∧H' sa=some (.lst (nv sn)),
    fun σ' H' ⟨e1,e2,e3,e4,e5⟩=>⟨T - (j'+2),by lia,j'+2,by lia,by lia,rfl,e1,e2,e3,e4,e5⟩,?_⟩
   refine ⟨_,rfl,.inl ⟨rfl,_,SqL.of r14⟩,_,rfl,_,rfl,_,rfl,rl,_,_,_,rfl,rfl,SqL.of r14,elast,fl,_,_,_,rfl,rfl,SqL.of f14,eat,?_⟩
   refine ⟨rl,_,_,rfl,rfl,r14,by rw [zh,ZQ,sizeLine_eq];lia,rfl,?_,by rw [zf nf];exact f14,by rw [zf ndd];exact d14,by rw [zf na];exact a14⟩
   rw [z4,jV (lf os) i (j'+1),jk]
   rfl
 intro σ H12 hA
 rw [show ((n:Nat):Int).toNat=n by lia] at hA
 obtain ⟨kv,x8,sa,sn,rfl,f12,d12,a12,hsn,hln⟩:=hA
 clear a12 hsn hln s11 f10 d10 hsl
 refine ⟨_,rfl,fl,_,rfl,.inl (SqL.of f12),1,_,rfl,⟨by decide,by decide,by rw [zh];lia,by rw [zh];lia⟩,fun bl hbl=>?_⟩
 rw [zh,hol]
 refine Ju (lo:=1) (n:=((n:Int) - 1).toNat) (fun i ys σ H13=>(∃x:Option V,σ=[x,some (.ref fl)])∧(∃zs:List Nat,ys=nv zs∧zs.length+fx (i+1) (lf os)=i)∧Same H12 H13∧H13 bl=some (.lst ys)) ⟨⟨none,rfl⟩,⟨[],rfl,by simp [fx,bt]⟩,zb hbl _,z4⟩ ?_ ?_
 ·rintro i ys σ H13 hi ⟨⟨x,rfl⟩,⟨zs,rfl,hz⟩,s13,b13⟩
  refine zF ?_
  rw [show (1:Int)+(i:Int)=((i+1:Nat):Int) by lia]
  have eat:atI (nv os) ((i+1:Nat):Int)=some (.int ((lf os (i+1):Nat):Int)):=by rw [qk (by lia) 0];exact zq (qf (by lia))
  refine ⟨_,rfl,_,rfl,fl,_,_,_,rfl,rfl,SqL.of (s13 _ _ f12),eat,_,rfl,rfl,_,rfl,?_⟩
  have hfx:fx (i+1+1) (lf os)=fx (i+1) (lf os)+bt (i+1≠0∧lf os (i+1)=i+1):=rfl
  by_cases z:lf os (i+1)=i+1
  ·rw [z,kf rfl]
   exact iteF ⟨((n:Int) - 1).toNat - (i+1),by lia,rfl,by lia,⟨_,rfl⟩,⟨zs,rfl,by rw [hfx,bt_t ⟨by lia,z⟩];lia⟩,s13,b13⟩
  ·rw [ke (fun q=>z (by have:=V.int.inj q;lia))]
   refine iteT ⟨_,rfl,b13,by rw [zh,sizeLine_eq];lia,((n:Int) - 1).toNat - (i+1),by lia,rfl,by lia,⟨_,rfl⟩,⟨zs++[i+1],by rw [jk];rfl,by rw [hfx,bt_f fun y=>z y.2,kh];show zs.length+1+_=_;lia⟩,My.Same.upd s13 hbl _,z4⟩
 rintro ys σ H13 ⟨_,⟨zs,rfl,hz⟩,s13,b13⟩
 have f13:=s13 _ _ f12
 have d13:=s13 _ _ d12
 rw [show ((n:Int) - 1).toNat+1=n by lia] at hz
 have hcr:=z0c n1 B
 have hC:(ks.length:Int)=(zs.length:Int)+((rgs n (lf os):Nat):Int):=by lia
 refine ⟨_,rfl,d,_,rfl,.inl (SqL.of d13),_,rfl,bl,_,rfl,.inl (SqL.of b13),_,rfl,_,_,rfl,rfl,rfl,false,?_,iteF ?_⟩
 ·rw [zh,zh,hC,kf rfl]
  rfl
 clear s13 f12 d12 hbl b13 hz hC hcr
 have cm:=Zg B
 refine z2G ?_
 dsimp only
 refine z1L (z2J (fun Q' hQ'=>?_) fun H14 s14=>?_)
 ·refine ⟨_,rfl,fl,_,rfl,.inl (SqL.of f13),_,_,rfl,rfl,_,rfl,?_⟩
  refine ite2 (fun c=>?_) fun _=>hQ' _ (Same.refl _)
  have c:=ku c
  rw [zh] at c
  refine ⟨_,rfl,fl,os,ks.length,rfl,f13,by lia,by lia,by rw [hol];exact hp,by rw [hol,hk1],by lia,fun H14 s14=>?_⟩
  refine ⟨_,rfl,d,_,rfl,.inl (SqL.of (s14 _ _ d13)),rfl,false,?_,hQ' _ s14⟩
  rw [zh,kf rfl]
  rfl
 have f14:=s14 _ _ f13
 clear f13 d13 s14 cm
 clear hk1 hk2 hk3 hk4
 refine ⟨_,rfl,fl,_,rfl,.inl ⟨SqL.of f14,fun b2 hb2=>?_⟩⟩
 have s2:=zb hb2 (.tup (nv os))
 have B2:BadO (upd H14 b2 (.tup (nv os))) (.ref b2):=.tup z4
 have f2:=s2 _ _ f14
 generalize upd H14 b2 (.tup (nv os))=G2 at *
 refine ⟨by show 0≤sizeLine;decide,fun b3 hb3=>?_⟩
 have s3:=zb hb3 (.lst [])
 have B3:BadO (upd G2 b3 (.lst [])) (.ref b3):=.long z4 (.inl rfl)
 replace B2:=B2.same s3
 have f3:=s3 _ _ f2
 generalize upd G2 b3 (.lst [])=G3 at *
 refine ⟨_,rfl,by show 1≤sizeLine;decide,fun x4 hx4=>?_⟩
 have s4:=zb hx4 (.lst [.int 0])
 refine ⟨fl,x4,_,_,rfl,rfl,s4 _ _ f3,z4,by rw [zh,sizeLine_eq];show os.length+1≤_;lia,fun b4 hb4=>?_⟩
 have s4':=zb hb4 (.lst (nv os++[.int 0]))
 have s44:=s4.trans s4'
 have B4:BadO (upd (upd G3 x4 (.lst [.int 0])) b4 (.lst (nv os++[.int 0]))) (.ref b4):=z1t hp n1 n9 z4
 replace B2:=B2.same s44
 replace B3:=B3.same s44
 generalize upd (upd G3 x4 (.lst [.int 0])) b4 (.lst (nv os++[.int 0]))=G4 at *
 refine ⟨by show 1≤sizeLine;decide,fun b5 hb5=>?_⟩
 have s5:=zb hb5 (.lst [.int 1])
 have B5:BadO (upd G4 b5 (.lst [.int 1])) (.ref b5):=.num (ns:=[1]) z4 (by decide) (by decide) z1s
 replace B2:=B2.same s5
 replace B3:=B3.same s5
 replace B4:=B4.same s5
 generalize upd G4 b5 (.lst [.int 1])=G5 at *
 refine ⟨by show 1≤sizeLine;decide,fun b6 hb6=>?_⟩
 have s6:=zb hb6 (.lst [.bl true])
 have B6:BadO (upd G5 b6 (.lst [.bl true])) (.ref b6):=.odd z4 (by decide) (by decide) (fun x hx=>by rw [kj.mp hx];exact .bl true) rfl
 replace B2:=B2.same s6
 replace B3:=B3.same s6
 replace B4:=B4.same s6
 replace B5:=B5.same s6
 generalize upd G5 b6 (.lst [.bl true])=G6 at *
 refine ⟨by show 2≤sizeLine;decide,fun b7 hb7=>?_⟩
 have s7:=zb hb7 (.lst [.int 0,.int 2])
 have B7:BadO (upd G6 b7 (.lst [.int 0,.int 2])) (.ref b7):=.num (ns:=[0,2]) z4 (by decide) (by decide) z1r
 replace B2:=B2.same s7
 replace B3:=B3.same s7
 replace B4:=B4.same s7
 replace B5:=B5.same s7
 replace B6:=B6.same s7
 generalize upd G6 b7 (.lst [.int 0,.int 2])=G7 at *
 refine ⟨10,rfl,by decide,fun b8 hb8=>?_⟩
 have s8:=zb hb8 (.lst (((List.range 10).map fun i:Nat=>(i:Int)).map V.int))
 have B8:BadO (upd G7 b8 (.lst (((List.range 10).map fun i:Nat=>(i:Int)).map V.int))) (.ref b8):=.long z4 (.inr (by rw [kg,kg,List.length_range];decide))
 replace B2:=B2.same s8
 replace B3:=B3.same s8
 replace B4:=B4.same s8
 replace B5:=B5.same s8
 replace B6:=B6.same s8
 replace B7:=B7.same s8
 generalize upd G7 b8 (.lst (((List.range 10).map fun i:Nat=>(i:Int)).map V.int))=G8 at *
 refine ⟨by show 1≤sizeLine;decide,fun b9 hb9=>?_⟩
 have s9:=zb hb9 (.lst [.str "0"])
 have B9:BadO (upd G8 b9 (.lst [.str "0"])) (.ref b9):=.odd z4 (by decide) (by decide) (fun x hx=>by rw [kj.mp hx];exact .str "0" (by show 1≤sizeLine;decide)) rfl
 replace B2:=B2.same s9
 replace B3:=B3.same s9
 replace B4:=B4.same s9
 replace B5:=B5.same s9
 replace B6:=B6.same s9
 replace B7:=B7.same s9
 replace B8:=B8.same s9
 generalize upd G8 b9 (.lst [.str "0"])=G9 at *
 refine fun b10 hb10=>?_
 have s10:=zb hb10 (.dK [])
 have B10:BadO (upd G9 b10 (.dK [])) (.ref b10):=.dct z4
 replace B2:=B2.same s10
 replace B3:=B3.same s10
 replace B4:=B4.same s10
 replace B5:=B5.same s10
 replace B6:=B6.same s10
 replace B7:=B7.same s10
 replace B8:=B8.same s10
 replace B9:=B9.same s10
 generalize upd G9 b10 (.dK [])=G10 at *
 refine ⟨by show 10≤sizeLine;decide,fun lb hlb=>?_⟩
 generalize exs:[V.non,V.ref b2,V.ref b3,V.ref b4,V.ref b5,V.ref b6,V.ref b7,V.ref b8,V.ref b9,V.ref b10]=xs
 have lxs:xs.length=10:=by rw [←exs];rfl
 have hB:∀x∈xs,BadO G10 x:=by
  rw [←exs]
  intro x hx
  simp only [kw,kl,or_false] at hx
  rcases hx with rfl | rfl | rfl | rfl | rfl | rfl | rfl | rfl | rfl | rfl
  ·exact .non
  all_goals assumption
 clear exs B2 B3 B4 B5 B6 B7 B8 B9 B10 s2 s3 s4 s4' s44 s5 s6 s7 s8 s9 s10 f2 f3 f14
 have s11:=zb hlb (.lst xs)
 have hL:upd G10 lb (.lst xs) lb=some (.lst xs):=z4
 replace hB:∀x∈xs,BadO (upd G10 lb (.lst xs)) x:=fun x hx=>(hB x hx).same s11
 generalize upd G10 lb (.lst xs)=G11 at *
 refine ⟨_,rfl,lb,rfl,⟨_,SqL.of hL⟩,fun cl hcl=>zY (K:=K) (a:=lb) (xs:=xs) (fun i ys σ H2=>(∃x:Option V,σ=[x])∧(∃as,ys=as.map V.ref∧qb H2 as (List.replicate i [.str "refused",.int 4]))∧Same G11 H2∧H2 cl=some (.lst ys))
  ⟨⟨none,rfl⟩,⟨[],rfl,.nil⟩,zb hcl _,z4⟩ (fun i ys σ H2 _ ⟨_,_,s2,_⟩=>s2.seq (SqL.of hL)) ?_ ?_⟩
 ·rintro i x ys σ H2 hi ⟨⟨b,rfl⟩,⟨as,rfl,hA⟩,s2,hp2⟩
  have hil:i < xs.length:=(kd.mp hi).1
  have la:=JB hA
  rw [List.length_replicate] at la
  refine zF ?_
  refine Zv ⟨_,rfl,_,x,rfl,(hB x (kz hi)).same s2,fun t3 H3 s3 h3=>?_⟩
  have nt:t3≠cl:=fun z=>by rw [z,s3 _ _ hp2] at h3;cases h3
  refine ⟨s3 _ _ hp2,by rw [kg,sizeLine_eq];lia,xs.length - (i+1),by lia,rfl,by lia,⟨_,rfl⟩,⟨as++[t3],by rw [kC];rfl,?_⟩,My.Same.upd (s2.trans s3) hcl _,z4⟩
  rw [List.replicate_succ']
  refine jQ (by rw [zf nt];exact h3) (qP (fun c ys e=>?_) hA)
  rw [zf (fun z=>by rw [z,hp2] at e;cases e)]
  exact s3 _ _ e
 rintro ys σ H2 ⟨_,⟨as,rfl,hA⟩,s2,hp2⟩
 rw [lxs] at hA
 refine ⟨rfl,fun t3 H3 s3 h3=>?_⟩
 refine ⟨by show 1≤sizeLine;decide,fun l3 hl3=>?_⟩
 have s4:=zb hl3 (.lst [.ref t3])
 refine ⟨l3,10,[.ref t3],rfl,rfl,z4,by decide,by decide,by show 1 * 10≤sizeLine;decide,fun p3 hp3=>?_⟩
 have s5:=zb hp3 (.lst (List.replicate (10:Int).toNat [V.ref t3]).flatten)
 have s25:=(s3.trans s4).trans s5
 refine ⟨cl,p3,as,List.replicate 10 t3,List.replicate 10 [.str "refused",.int 4],rfl,rfl,SqL.of (s25 _ _ hp2),SqL.of z4,qP (fun c ys e=>s25 _ _ e) hA,ZM (s5 _ _ (s4 _ _ h3)) 10,fun xs hxs=>?_,q _⟩
 rw [List.eq_of_mem_replicate hxs]
 rfl
end
def LK (K:ko) (f:Addr) (x q:Str) (st:Stmt):Prop:=∃(oc:Value) (od an:Option Addr) (osl:Array (Option Value)) (kV doc pm cdv ct:Value),K.lookup f=some ⟨oc,od,.func (PySem.W.fnOf x q (zO st) (zx st) (za st) .none kV doc pm an cdv ct),osl⟩∧PySem.W.codeIn K cdv q=true∧PySem.W.keepIn K (.ref f)=true
theorem lk_mk {K:ko} {f:Addr} {x q:Str} {st:Stmt} {oc:Value} {od an:Option Addr} {osl:Array (Option Value)} {kV doc pm cdv ct:Value} (l:K.lookup f=some ⟨oc,od,.func (PySem.W.fnOf x q (zO st) (zx st) (za st) .none kV doc pm an cdv ct),osl⟩) (c:PySem.W.codeIn K cdv q=true) (k:PySem.W.keepIn K (.ref f)=true):LK K f x q st:=⟨_,_,_,_,_,_,_,_,_,l,c,k⟩
def HD (K:ko) (f:Addr) (x:Str) (n:Nat):Prop:=PySem.W.nsIn K mainGlobals x=some (some (.ref f))∧LK K f x x (top n)
theorem hdm {K:ko} {f:Addr} {x:Str} {n:Nat} {oc:Value} {od an:Option Addr} {osl:Array (Option Value)} {kV doc pm cdv ct:Value} (a:PySem.W.nsIn K mainGlobals x=some (some (.ref f))) (l:K.lookup f=some ⟨oc,od,.func (PySem.W.fnOf x x (zO (top n)) (zx (top n)) (za (top n)) .none kV doc pm an cdv ct),osl⟩) (c:PySem.W.codeIn K cdv x=true) (k:PySem.W.keepIn K (.ref f)=true):HD K f x n:=⟨a,lk_mk l c k⟩
theorem z2O {K:ko} {h:Heap} {mg:Str→Option Value} {x:Str} {n:Nat} {f:Addr} (X:K.In h) (G:h.Ns mainGlobals mg) (l:HD K f x n):zy K mg x (top n):=by
 obtain ⟨a,_,_,_,_,_,_,_,_,_,l,c,k⟩:=l
 exact ⟨f,_,z0E l c k,ki X G a⟩
def CN (K:ko) (x:Str) (i:Int):Prop:=∃u,PySem.W.nsIn K mainGlobals x=some (some u)∧RelV (.int i) u
theorem cnm {K:ko} {x:Str} {i:Int} {u:Value} (a:PySem.W.nsIn K mainGlobals x=some (some u)) (r:RelV (.int i) u):CN K x i:=⟨u,a,r⟩
theorem z2U {K:ko} {h:Heap} {mg:Str→Option Value} {x:Str} {i:Int} (X:K.In h) (G:h.Ns mainGlobals mg) (l:CN K x i):∃u,mg x=some u∧RelV (.int i) u:=l.elim fun u q=>⟨u,ki X G q.1,q.2⟩
theorem all_mk {l:PySem.W.OpenLaw} {w:World} {K:ko} {h:Heap} {mg:Str→Option Value} {fa CM c1 c2 c3 c4 c5 c6 c7 c8:Addr} (X:K.In h) (G:h.Ns mainGlobals mg) (hfa:mg "law"=some (.ref fa))
  {f11 f14 f15 f16 f17 f18 f20 f21 f22 f23 f24 f25 f26 f27 f28 f29 f30 f31:Addr}
  (l11:HD K f11 "is_number" 11)
  (l14:HD K f14 "is_order" 14)
  (l15:HD K f15 "exchanged" 15)
  (l16:HD K f16 "next_swap" 16)
  (l17:HD K f17 "swaps_to" 17)
  (l18:HD K f18 "fewest_swaps" 18)
  (l20:HD K f20 "_law_town" 20)
  (l21:HD K f21 "_law_draw" 21)
  (l22:HD K f22 "_law_whole" 22)
  (l23:HD K f23 "_law_wholes" 23)
  (l24:HD K f24 "_law_word" 24)
  (l25:HD K f25 "_law_refused" 25)
  (l26:HD K f26 "_law_told" 26)
  (l27:HD K f27 "_law_one" 27)
  (l28:HD K f28 "_law_moved" 28)
  (l29:HD K f29 "_law_layers" 29)
  (l30:HD K f30 "_law_swap" 30)
  (l31:HD K f31 "law" 31)
  (eM:PySem.W.nsIn K mainGlobals "MillError"=some (some (.ref CM)))
  (e1:PySem.W.nsIn K mainGlobals "BadCode"=some (some (.ref c1)))
  (e2:PySem.W.nsIn K mainGlobals "BadNames"=some (some (.ref c2)))
  (e3:PySem.W.nsIn K mainGlobals "BadNumber"=some (some (.ref c3)))
  (e4:PySem.W.nsIn K mainGlobals "Unsound"=some (some (.ref c4)))
  (e5:PySem.W.nsIn K mainGlobals "BadOrder"=some (some (.ref c5)))
  (e6:PySem.W.nsIn K mainGlobals "BadText"=some (some (.ref c6)))
  (e7:PySem.W.nsIn K mainGlobals "BadUnits"=some (some (.ref c7)))
  (e8:PySem.W.nsIn K mainGlobals "BadBytes"=some (some (.ref c8)))
  (xM:PySem.W.excIn K CM ([.type "RuntimeError",.type "Exception",.type "BaseException",.type "object"]:List Value) "RuntimeError.__new__"=true)
  (x5:PySem.W.excIn K c5 ([.type "RuntimeError",.type "Exception",.type "BaseException",.type "object"]:List Value) "RuntimeError.__new__"=true)
  (q5:excQ K c5 rtM "RuntimeError.__new__"=true)
  (u5:upIn K c5 CM=true)
  (d1:(c1 == c5)=false)
  (s1:qg K c1=true)
  (v1:upIn K c5 c1=false)
  (d2:(c2 == c5)=false)
  (s2:qg K c2=true)
  (v2:upIn K c5 c2=false)
  (d3:(c3 == c5)=false)
  (s3:qg K c3=true)
  (v3:upIn K c5 c3=false)
  (d4:(c4 == c5)=false)
  (s4:qg K c4=true)
  (v4:upIn K c5 c4=false)
  (d6:(c6 == c5)=false)
  (s6:qg K c6=true)
  (v6:upIn K c5 c6=false)
  (d7:(c7 == c5)=false)
  (s7:qg K c7=true)
  (v7:upIn K c5 c7=false)
  (d8:(c8 == c5)=false)
  (s8:qg K c8=true)
  (v8:upIn K c5 c8=false)
  (z_isinstance:PySem.W.nsIn K mainGlobals "isinstance"=some none)
  (z_int:PySem.W.nsIn K mainGlobals "int"=some none)
  (z_bool:PySem.W.nsIn K mainGlobals "bool"=some none)
  (z_str:PySem.W.nsIn K mainGlobals "str"=some none)
  (z_tuple:PySem.W.nsIn K mainGlobals "tuple"=some none)
  (z_list:PySem.W.nsIn K mainGlobals "list"=some none)
  (z_len:PySem.W.nsIn K mainGlobals "len"=some none)
  (z_range:PySem.W.nsIn K mainGlobals "range"=some none)
  (z_enumerate:PySem.W.nsIn K mainGlobals "enumerate"=some none)
  (z_all:PySem.W.nsIn K mainGlobals "all"=some none)
  (z_dict:PySem.W.nsIn K mainGlobals "dict"=some none)
  (z_max:PySem.W.nsIn K mainGlobals "max"=some none)
  (z_min:PySem.W.nsIn K mainGlobals "min"=some none)
  (z_abs:PySem.W.nsIn K mainGlobals "abs"=some none)
  (z_sorted:PySem.W.nsIn K mainGlobals "sorted"=some none)
  (z_zip:PySem.W.nsIn K mainGlobals "zip"=some none)
  (z_RuntimeError:PySem.W.nsIn K mainGlobals "RuntimeError"=some none)
  (q_places:CN K "MOST_PLACES" 9)
  :∃fd:FuncData,(∀(s:Shared) (v:Value),BindsTo s fd ⟨[v],[]⟩ [("_law_script",v)])∧∀base:Heap,K.In base→base.Ns mainGlobals mg→FnOk l.prog w K mg base CX0 6 fa fd ["_law_script"] (JG K):=by
 have e:=hfa.symm.trans (ki X G l31.1)
 cases e
 have D {f:Addr} {x:Str} {n:Nat} (l:HD K f x n):zy K mg x (top n):=z2O X G l
 have GG:Glo mg:=⟨PySem.W.mg_none_of X G z_isinstance,PySem.W.mg_none_of X G z_int,PySem.W.mg_none_of X G z_bool,PySem.W.mg_none_of X G z_str,PySem.W.mg_none_of X G z_tuple,PySem.W.mg_none_of X G z_list,PySem.W.mg_none_of X G z_len,PySem.W.mg_none_of X G z_range,PySem.W.mg_none_of X G z_enumerate,PySem.W.mg_none_of X G z_all,PySem.W.mg_none_of X G z_dict,PySem.W.mg_none_of X G z_max,PySem.W.mg_none_of X G z_min,PySem.W.mg_none_of X G z_abs⟩
 have GS:GloS mg:=⟨z2U X G q_places,PySem.W.mg_none_of X G z_sorted,PySem.W.mg_none_of X G z_zip⟩
 have ER:Errs K mg CM c1 c2 c3 c4 c5 c6 c7 c8:=⟨PySem.W.mg_none_of X G z_RuntimeError,ki X G eM,ki X G e1,ki X G e2,ki X G e3,ki X G e4,ki X G e5,ki X G e6,ki X G e7,ki X G e8,xM,x5,q5,u5,⟨beq_eq_false_iff_ne.mp d1,s1,v1⟩,⟨beq_eq_false_iff_ne.mp d2,s2,v2⟩,⟨beq_eq_false_iff_ne.mp d3,s3,v3⟩,⟨beq_eq_false_iff_ne.mp d4,s4,v4⟩,⟨beq_eq_false_iff_ne.mp d6,s6,v6⟩,⟨beq_eq_false_iff_ne.mp d7,s7,v7⟩,⟨beq_eq_false_iff_ne.mp d8,s8,v8⟩⟩
 obtain ⟨_,_,_,an,_,kV,dc,pm,cd,ct,lk,c,k⟩:=l31
 refine ⟨PySem.W.fnOf "law" "law" (zO (top 31)) (zx (top 31)) (za (top 31)) .none kV dc pm an cd ct,fun s v=>.of_eq rfl,fun base _ _=>?_⟩
 have nF {x:Str} {ps:List Str} {sp:Sp} {k:Nat} (F:FN l.prog w K mg base k x ps sp):=F
 have num:=nF (Zc (D l11) GG)
 have exch:=nF (z1j (D l15) GG)
 have nxt:=nF (z2f (D l16) GG)
 have to:=z2Q (D l17) GG nxt exch
 have ord:=z2c (D l14) GG GS num
 have ordB:=z1h (D l14) GG GS num
 have few:=z2h (D l18) ord to
 have fewX:=z1i (D l18) ER.n5 ER.e5 ord ordB to
 have town:=nF (z1e (D l20) GG)
 have draw:=nF (z1k (D l21) GG)
 have whole:=nF (z05 (D l22) GG)
 have wholes:=Jj (D l23) GG whole
 have word:=nF (z1d (D l24) GG ER)
 have refd:=nF (z1g (D l25))
 have one:=z2d (D l27) fewX
 have told:=z1f (D l26) ER one word
 have moved:=nF (z07 (D l28) GG)
 have swap:=nF (z06 (D l30))
 have layers:=Jk (D l29) GG swap
 exact z2g (z0E (st:=top 31) lk c k) GG town draw few wholes moved layers told refd
theorem z1M {K:ko} {H:Hp} {a:Addr} {xs:List V} (hO:Only H) (h:SqL K H a xs):Scr K H a xs:=by
 rcases h with h | h
 ·rcases h with h | ⟨o,h⟩
  ·rcases hO a with z | ⟨o,ys,z⟩
   ·rw [z] at h;cases h
   ·rw [z] at h;cases h
  ·exact .inl ⟨o,h⟩
 ·exact .inr h
theorem walk {l:PySem.W.OpenLaw} {q:Program} {loose:List Str} {XP:(Str→Option Value)→Heap→Prop} {YP:World→Heap→Prop} {d:DefRec} {K:Params→ko} (hn:l.most=some 63) (hdf:d.params.defaults=[])
  (hY:∀(w:World) (h:Heap),YP w h→(K w.params).In h)
  (F:∀(w:World) (mg:Str→Option Value) (fa:Addr) (h:Heap),(K w.params).In h→h.Ns mainGlobals mg→mg d.name=some (.ref fa)→
   ∃fd:FuncData,(∀(s:Shared) (u:Value),BindsTo s fd ⟨[u],[]⟩ [("_law_script",u)])∧∀base:Heap,(K w.params).In base→base.Ns mainGlobals mg→FnOk l.prog w (K w.params) mg base CX0 6 fa fd ["_law_script"] (JG (K w.params))):
  PySem.W.WalkO q loose XP YP l.row.toRowW d [] (fun f vs=>PySem.call f vs):=
 L2.z0L (n:=63) (k:=6) (x:="_law_script") (CX:=fun _=>CX0) (sp:=fun w=>JG (K w.params)) hn (by decide) hdf ⟨rfl,by decide,by decide,rfl⟩ hY F (fun _ _ a ns hl hO hS=>⟨a,ns,rfl,z1M hO hS,hl,fun _=>rfl⟩) fun _ _ _ _ _ z=>z
end My
namespace PySem.W.Fast
def tw5105673956185107153:=Prop
def tw9296360433889664002:=Prop
def tw16968176118458789586:=Prop
def tw9497945907656264259:=Prop
def tw1176975735165151067:=Prop
def tw9515242367644423802:=Prop
def tw10426125643436316091:=Prop
def tw17643754061406199020:=Prop
def tw11187973929812520656:=Prop
def tw15452572443179084588:=Prop
def tw9156678896304099913:=Prop
def tw3520363519792060846:=Prop
def tw4419873286371483742:=Prop
def tw12798869161161681673:=Prop
def tw2257529940240947247:=Prop
def tw3101917741504857134:=Prop
def tw7523194637212750777:=Prop
def tw4361700775904427359:=Prop
def tw10299302589577801163:=Prop
def tw13840814423707232359:=Prop
def tw9563574807059059695:=Prop
def tw16932301668260661676:=Prop
def tw4157206338815638501:=Prop
def tw16472409268878238316:=Prop
def tw10700183255674453818:=Prop
def tw13426244417702134072:=Prop
def tw5681066748535004433:=Prop
def tw529536973988259948:=Prop
def tw1906743188756502811:=Prop
def tw8426798971799828003:=Prop
def tw10335527622381539264:=Prop
def tw14501001857826371202:=Prop
def tw17925384258215065573:=Prop
def tw7328447075739424539:=Prop
def tw13517250619966689955:=Prop
def tw16131593051203169754:=Prop
def tw8933567498414919238:=Prop
def tw5623994078177797194:=Prop
def tw14191745827877185554:=Prop
def tw5312734613080425828:=Prop
def tw10155365746132046468:=Prop
def tw17849293660312457548:=Prop
def tw14613296582639449008:=Prop
def tw16749348522385944071:=Prop
def tw69414778264802052:=Prop
def tw16550838102048051623:=Prop
def tw16172578528114110199:=Prop
def tw1541540961381408409:=Prop
def tw8789256864460932259:=Prop
def tw15622835117965313283:=Prop
def tw12673549619886724666:=Prop
def tw5388663596951873645:=Prop
def tw7317576523658780031:=Prop
def tw8621301723031713458:=Prop
def tw12068798485007620914:=Prop
def tw4203021270051977171:=Prop
def tw13056512690104125533:=Prop
def tw11418939547134857076:=Prop
def tw3094701115853657799:=Prop
def tw4179031660912777645:=Prop
def tw3857615796733700780:=Prop
def tw804092199982636349:=Prop
def tw13829591483307370896:=Prop
def tw17969941481158815411:=Prop
def tw15213048550514571353:=Prop
def tw17427895641331663283:=Prop
def tw4033379813872489195:=Prop
def tw8903238766108814736:=Prop
def tw16149030986926176842:=Prop
def tw13478877428745155630:=Prop
def tw8436589768386056944:=Prop
def tw10097012582147076362:=Prop
def tw112567504061534027:=Prop
def tw9192171586001469603:=Prop
def tw9455475090630465045:=Prop
def tw15416708228241726627:=Prop
def tw17845374550828520631:=Prop
def tw14439765378166140033:=Prop
def tw18221076124747093969:=Prop
def tw10752687858943698738:=Prop
def tw6785330896964960468:=Prop
def tw7470021291188754609:=Prop
def tw17601101962401091345:=Prop
def tw16629561534657121264:=Prop
def tw14864845329073380503:=Prop
def tw12059592832596718669:=Prop
def tw11712190458185945011:=Prop
def tw12976177241038019767:=Prop
def tw14566440943485919492:=Prop
def tw15069716523494295500:=Prop
def tw14790834132378566595:=Prop
def tw17546005709695080877:=Prop
def tw2294854397974045510:=Prop
def tw12532165626772418067:=Prop
def tw8160871880118814707:=Prop
def tw6951939212644042833:=Prop
def tw7805864855692585105:=Prop
def tw9715166753854553471:=Prop
def tw15632388027458123374:=Prop
def tw945341581919703260:=Prop
def tw15431134087688302020:=Prop
def tw9897558803702562313:=Prop
def tw9508736203920968164:=Prop
def tw6585068141940680455:=Prop
def tw5036445103931068615:=Prop
def tw13792483299354683862:=Prop
def tw6834397320308548248:=Prop
def tw4954584648838934644:=Prop
def tw3482820431698744051:=Prop
def tw6511239469406747073:=Prop
def tw11002848052431835627:=Prop
def tw8368205733661556053:=Prop
def tw13989995598129119793:=Prop
def tw2852278927748849453:=Prop
def tw5427499738942290107:=Prop
def tw10390157646234782899:=Prop
def tw6731276024794131016:=Prop
def tw4626940704210403192:=Prop
def tw17996964024917085871:=Prop
def tw10015853644003576960:=Prop
def tw17857563459279650048:=Prop
def tw4211952112222678748:=Prop
def tw7388713464098733815:=Prop
def tw13218621648322568166:=Prop
def tw16037262199133111090:=Prop
def tw5353813085845620550:=Prop
def tw12184380411685104690:=Prop
def tw10693841506766600124:=Prop
def tw5485572742587201778:=Prop
def tw13481268755573549168:=Prop
def tw6333583157584000069:=Prop
def tw17093224777342109595:=Prop
def tw4211700434839312001:=Prop
def tw17837415989878807268:=Prop
def tw9585978970863474492:=Prop
def tw5552461122284547459:=Prop
def tw15862806813707239167:=Prop
def tw6315216371427503177:=Prop
def tw5260856337621036202:=Prop
def tw9305391788130653963:=Prop
def tw8824595633291508535:=Prop
def tw14199714164133228370:=Prop
def tw726985913927333873:=Prop
def tw2335157872551914648:=Prop
def tw2385268686561707046:=Prop
def tw2927799364441409784:=Prop
def tw15137687247720179910:=Prop
def tw8605165415444627158:=Prop
def tw13553050674002434610:=Prop
def tw7097827964152542560:=Prop
def tw15632992782082381434:=Prop
def tw4382769092392356903:=Prop
def tw11969037393335460339:=Prop
def tw17094580856887593759:=Prop
def tw3904583755211930517:=Prop
def tw14788362278542820120:=Prop
def tw18431155831084640082:=Prop
def tw14722794537435163219:=Prop
def tw11118301316682269745:=Prop
def tw11188117447681078326:=Prop
def tw11763852733077360975:=Prop
def tw8526028360262338249:=Prop
def tw10052001805573714066:=Prop
def tw1877378965866140348:=Prop
def tw15545184769064153574:=Prop
def tw12067549021546063074:=Prop
def tw16396790404030501481:=Prop
def tw15755044616229629136:=Prop
def tw1647960591809683682:=Prop
def tw17878424488110687958:=Prop
def tw14267268813261638861:=Prop
def tw5680315236850328200:=Prop
def tw11786325122171474085:=Prop
def tw7343611390307366373:=Prop
def tw5916140570258018564:=Prop
def tw14323227155912201964:=Prop
def tw7340446101256811000:=Prop
def tw14734032772098568817:=Prop
def tw2962324470309885386:=Prop
def tw17859187208103804122:=Prop
def tw8667492640987031791:=Prop
def tw11320351676317602388:=Prop
def tw6793172497655745189:=Prop
def tw13952158723898717365:=Prop
def tw8079883169468671255:=Prop
def tw7524379617451308511:=Prop
def tw18167724695441219349:=Prop
def tw4968929673044707356:=Prop
def tw13887902116395311400:=Prop
def tw1391549112126926301:=Prop
def tw12712400820596877648:=Prop
def tw17888565902029391346:=Prop
def tw10846345724684618374:=Prop
def tw2873748437651673626:=Prop
def tw274189353798237994:=Prop
def tw10497823618577955822:=Prop
def tw644751248652905101:=Prop
def tw2680141511932349947:=Prop
def tw897888412878121761:=Prop
def tw14279065940840616024:=Prop
def tw18329075359065952542:=Prop
def tw1267704075650749254:=Prop
def tw16463793508043411602:=Prop
def tw5587484289544270231:=Prop
def tw12757418096077522329:=Prop
def tw8131721106225051767:=Prop
def tw3808584094389355786:=Prop
def tw15261137711255440680:=Prop
def tw10800367221633172730:=Prop
def tw4177351759533223642:=Prop
def tw16925118299729312639:=Prop
def tw3471986238504059686:=Prop
def tw14763428746477059428:=Prop
def tw7894344252036594922:=Prop
def tw7090585071989052306:=Prop
def tw438459731153329746:=Prop
def tw6623812351622530092:=Prop
def tw6760056911573607715:=Prop
def tw18277388166739348960:=Prop
def tw671769174312181376:=Prop
def tw10354477200866600673:=Prop
def tw3302770140995672700:=Prop
def tw12079628635447562283:=Prop
def tw6252695792229605141:=Prop
def tw10393078302967963895:=Prop
def tw6205024481829086969:=Prop
def tw5015507407206683207:=Prop
def tw15155859288707382567:=Prop
def tw17590088832654516399:=Prop
def tw14398365135244066966:=Prop
def tw6999941293234460784:=Prop
def tw17960406059949683352:=Prop
def tw12319047049370110589:=Prop
def tw133755455108545178:=Prop
def tw16286715671046524454:=Prop
def tw6788773261714906821:=Prop
def tw5609530884314319229:=Prop
def tw6233494565018857166:=Prop
def tw2484844197603217540:=Prop
def tw7717702957765121957:=Prop
def tw13350131943787299761:=Prop
def tw8078195926588453703:=Prop
def tw3822784309164373692:=Prop
def tw5674458297940323589:=Prop
def tw1292346606274980823:=Prop
def tw2456577590951144490:=Prop
def tw8697654515486363317:=Prop
def tw13949155002146243131:=Prop
def tw4589182232624314844:=Prop
def tw16970792351503237766:=Prop
def tw14949513074056673275:=Prop
def tw1620389302784492585:=Prop
def tw4462149045755872821:=Prop
def tw13323373534744806615:=Prop
def tw15854262060937163188:=Prop
def tw17960848765466677729:=Prop
def tw17802128708061929859:=Prop
def tw17181403740406987024:=Prop
def tw18042889414512086050:=Prop
def tw3942624392001961204:=Prop
def tw5738919822854818926:=Prop
def tw6662249597110656733:=Prop
def tw16803143847538834185:=Prop
def tw16504757533647375273:=Prop
end PySem.W.Fast
open PySem PySem.W PyProof.Rows
set_option maxRecDepth 100000
set_option maxHeartbeats 0
open_top head for PySem.Challenge.rw_codemill_k55_whole_fewest_swaps
theorem PySem.Challenge.cw_codemill_k55_whole_fewest_swaps_holds : PySem.Challenge.rw_codemill_k55_whole_fewest_swaps.Holds :=
 head (by
 k_fill
 refine My.walk (l:=PySem.Challenge.rw_codemill_k55_whole_fewest_swaps) rfl rfl (fun w h Y=>PySem.W.kIn_of Y) ?F
 case F=>
  intro w mg fa h KX G hmg
  refine' My.all_mk KX G hmg ?_ ?_ ?_ ?_ ?_ ?_ ?_ ?_ ?_ ?_ ?_ ?_ ?_ ?_ ?_ ?_ ?_ ?_ ?_ ?_ ?_ ?_ ?_ ?_ ?_ ?_ ?_ ?_ ?_ ?_ ?_ ?_ ?_ ?_ ?_ ?_ ?_ ?_ ?_ ?_ ?_ ?_ ?_ ?_ ?_ ?_ ?_ ?_ ?_ ?_ ?_ ?_ ?_ ?_ ?_ ?_ ?_ ?_ ?_ ?_ ?_ ?_ ?_ ?_ ?_ ?_ ?_ ?_ ?_ ?_
  any_goals exact My.hdm (by k_is) (by k_is) (by k_is) (by k_is)
  any_goals exact My.cnm (by k_is) (by first | exact rfl | exact ⟨_,rfl⟩)
  any_goals k_is
  any_goals exact rfl
  any_goals k_exc
  with_unfolding_all exact rfl)
