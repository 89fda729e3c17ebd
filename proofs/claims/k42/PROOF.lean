import PyProof.Rows.All
import Wide.All
import OpenK.AllK
import PySem.Challenge.RW_liftwave_k42_enough
open PySem.W(Frag)
set_option Elab.async false
set_option compiler.extract_closed false
set_option bootstrap.genMatcherCode false
set_option linter.all false
set_option maxRecDepth 100000
set_option hygiene false
local macro_rules |`(tactic|kj_on)=>`(tactic| (intro X hP hw hK hc i pins s Y H E I hf st hg;subst hP hw hK))
set_option hygiene true
namespace L2
open PySem PySem.Spec PyProof.Rows
abbrev Key:=Sum Int Str
def keyIs:Key->Value->Bool
 | .inl k,v=>Value.isInt k v
 | .inr x,v=>Value.isStrOf x v
def keyH (w:World):Key->Int
 | .inl k=>hashInt k
 | .inr x=>hashStr w x
theorem keyIs_shape:∀{k:Key} {v:Value},keyIs k v=true->(∃i t,k=Sum.inl i/\v=Value.int i t)∨(∃x t,k=Sum.inr x/\v=Value.str x t)
 | .inl i,v,h=>by
  obtain⟨t,e⟩:=Value.isInt_shape h
  exact .inl ⟨i,t,rfl,e⟩
 | .inr x,v,h=>by
  obtain⟨t,e⟩:=Value.isStrOf_shape h
  exact .inr ⟨x,t,rfl,e⟩
theorem key_ll (a b:Int):decide ((Sum.inl a:Key)=Sum.inl b)=(a==b):=by
 by_cases e:a=b
 .subst e;simp
 .have h:¬ (Sum.inl a:Key)=Sum.inl b:=λq=>e (Sum.inl.inj q)
  rw[decide_eq_false h]
  exact (beq_eq_false_iff_ne.mpr e).symm
theorem key_rr (a b:Str):decide ((Sum.inr a:Key)=Sum.inr b)=decide (a=b):=by
 by_cases e:a=b
 .subst e;simp
 .have h:¬ (Sum.inr a:Key)=Sum.inr b:=λq=>e (Sum.inr.inj q)
  rw[decide_eq_false h,decide_eq_false e]
theorem key_lr (a:Int)(b:Str):decide ((Sum.inl a:Key)=Sum.inr b)=false:=decide_eq_false (λq=>nomatch q)
theorem key_rl (a:Str)(b:Int):decide ((Sum.inr a:Key)=Sum.inl b)=false:=decide_eq_false (λq=>nomatch q)
def mixKind (prog:Program)(w:World):PySem.KeyKind prog w Key where
 is:=keyIs
 hash:=keyH w
 inj := λv a b ha hb=>by
  rcases keyIs_shape ha with⟨i,t,rfl,rfl⟩ | ⟨x,t,rfl,rfl⟩
  .rcases keyIs_shape hb with⟨j,u,rfl,e⟩ | ⟨y,u,rfl,e⟩
   .injection e with e1 _;rw[e1]
   .exact nomatch e
  .rcases keyIs_shape hb with⟨j,u,rfl,e⟩ | ⟨y,u,rfl,e⟩
   .exact nomatch e
   .injection e with e1 _;rw[e1]
 byValue:=λk v h=>by
  rcases keyIs_shape h with⟨i,t,rfl,rfl⟩ | ⟨x,t,rfl,rfl⟩<;>rfl
 pyHash:=λhv h=>by
  rcases keyIs_shape hv with⟨i,t,rfl,rfl⟩ | ⟨x,t,rfl,rfl⟩
  .exact wpAny_pyHash_int h
  .exact wpAny_pyHash_str h
 eqBool:=λhu hv h=>by
  rcases keyIs_shape hu with⟨i,t,rfl,rfl⟩ | ⟨x,t,rfl,rfl⟩
  .rcases keyIs_shape hv with⟨j,u,rfl,rfl⟩ | ⟨y,u,rfl,rfl⟩
   .rw [key_ll]at h;exact wpAny_eqBool_int h
   .rw [key_lr]at h;exact SeqAt.EqAt.int_str i t y u _ _ _ _ h
  .rcases keyIs_shape hv with⟨j,u,rfl,rfl⟩ | ⟨y,u,rfl,rfl⟩
   .rw [key_rl]at h;exact SeqAt.EqAt.str_int x t j u _ _ _ _ h
   .rw [key_rr]at h;exact wpAny_eqBool_str h
 «strs»:=λk x t v h=>by
  rcases keyIs_shape h with⟨i,u,rfl,e⟩ | ⟨y,u,rfl,e⟩
  .exact nomatch e
  .injection e with e1 _
   subst e1
   cases v<;>rfl
inductive V where
 |non |bl (b:Bool) |int (i:Int) |str (x:Str) |byt (b:Array UInt8) |flt (b:UInt64) |ref (a:Addr) |ty (n:String)
 deriving DecidableEq
def RelV:V->Value->Prop
 | .non,u=>u=Value.none
 | .bl b,u=>u=Value.bool b
 | .int i,u=>∃t,u=Value.int i t
 | .str x,u=>∃t,u=Value.str x t
 | .byt b,u=>∃t,u=Value.bytes b t
 | .flt b,u=>∃t,u=Value.float b t
 | .ref a,u=>u=Value.ref a
 | .ty n,u=>u=Value.type n
abbrev Vals:List V->List Value->Prop:=Paired RelV
theorem Vals.length {xs:List V}{us:List Value}(r:Vals xs us):xs.length=us.length:=Paired.length r
theorem Vals.get:∀{xs:List V} {us:List Value} {i:Nat} {x:V},Vals xs us->xs[i]?=some x->∃u,us[i]?=some u/\RelV x u
 |_,_,_,_,.nil,e=>by simp at e
 |_,_,0,_,.cons r _,e=>by simp at e;subst e;exact⟨_,rfl,r⟩
 |_,_,i+1,x,.cons _ t,e=>by
  obtain⟨u,h1,h2⟩:=Vals.get t e
  exact⟨u,h1,h2⟩
theorem Vals.set {x:V}{u:Value}(r:RelV x u):∀{xs:List V} {us:List Value} (i:Nat),Vals xs us->Vals (xs.set i x) (us.set i u)
 |_,_,_,.nil=>.nil
 |_,_,0,.cons _ t=>.cons r t
 |_,_,i+1,.cons q t=>.cons q (Vals.set r i t)
theorem Vals.append:∀{xs ys:List V} {us ws:List Value},Vals xs us->Vals ys ws->Vals (xs++ys) (us++ws)
 |_,_,_,_,.nil,s=>s
 |_,_,_,_,.cons r t,s=>.cons r (Vals.append t s)
theorem Vals.take:∀{xs:List V} {us:List Value} (n:Nat),Vals xs us->Vals (xs.take n) (us.take n)
 |_,_,0,_=>.nil
 |_,_,_+1,.nil=>.nil
 |_,_,n+1,.cons r t=>.cons r (Vals.take n t)
theorem Vals.drop:∀{xs:List V} {us:List Value} (n:Nat),Vals xs us->Vals (xs.drop n) (us.drop n)
 |_,_,0,r=>r
 |_,_,_+1,.nil=>.nil
 |_,_,n+1,.cons _ t=>Vals.drop n t
def RelO:Option V->Option Value->Prop
 |some v,some u=>RelV v u
 |none,none=>True
 |_,_=>False
def KV {κ:Type}:List (κ×V)->List (κ×Value)->Prop:=Paired λ(p:κ×V) (q:κ×Value)=>p.1=q.1/\RelV p.2 q.2
def kV:Key->V
 | .inl i=>.int i
 | .inr x=>.str x
inductive HO where
  |lst (xs:List V)
  |tup (xs:List V)
  |dK (kvs:List (Key×V)) |dT (kvs:List (List Key×V))
  |set (S:Int->Bool) (n:Nat)
  |ins (C dx:Addr) (fs:List (Str×V))
  |own (x:Addr)
  |xd (fs:List (Str×V))
  |met (f x:Addr)
  |rng (lo hi:Int)
  |frz (o:Obj) (u:HO)
  |tbl (ps:Array Value)
 |cod (p:Pos) (q:Str)
  |ext (φ:Heap->Prop)
def isCod (oc:Obj)(q:Str):Prop:=∃vs t,oc.data = .fields vs/\vs[1]?=some (.str q t)
def refd (u:HO):Prop:=(∃xs,u = .tup xs)∨∃oc c q,u = .frz oc (.own c)/\isCod oc q
abbrev Hp:=Addr->Option HO
def upd (H:Hp)(a:Addr)(o:HO):Hp:=λb=>if b=a then some o else H b
theorem Xa0 {H:Hp}{a:Addr}{o:HO}:upd H a o a=some o:=by unfold upd;rw[if_pos rfl]
theorem upd_ne {H:Hp}{a b:Addr}{o:HO}(h:b≠a):upd H a o b=H b:=by unfold upd;rw[if_neg h]
theorem ne_of_none {H:Hp}{a b:Addr}{o:HO}(h:H a=some o)(h':H b=none):a≠b:=by
 intro e;subst e;rw[h]at h';cases h'
section
variable (P:Program)(w:World)
def ObjOk (H:Hp)(h:Heap)(a:Addr):HO->Prop
 | .lst xs=>xs.length<=sizeLine/\∃(its:List Value) (n:Nat),Vals xs its/\h.get? a=some {cls:=.type "list",data:=.seq its.toArray n}
 | .tup xs=>xs.length<=sizeLine/\∃its:List Value,Vals xs its/\IsTup h a its.toArray
 | .dK kvs=>kvs.length<=sizeLine/\(a==sysModules)=false/\∃vs,KV kvs vs/\h.DictOf (mixKind P w) a vs
 | .dT kvs=>kvs.length<=sizeLine/\(a==sysModules)=false/\∃xs:List (List Key×Addr×Value),
   Paired (λ(p:List Key×V) (q:List Key×Addr×Value)=>p.1=q.1/\H q.2.1=some (.tup (p.1.map kV))/\RelV p.2 q.2.2) kvs xs/\
   ∃o es ep,h.get? a=some o/\o.ExactDict/\o.data = .dict es ep/\es.toList=xs.map (entryOfKey (tupleKind (mixKind P w)))/\(xs.map (·.1)).Nodup
 | .set S n=>h.SetOf (intKind P w) a S n
 | .ins C dx fs=>H dx=some (.own a)/\fs.length<=1000/\dx≠a/\h.get? a=some (PySem.W.instObj C dx)/\
   ∃mA,h.Ns1 dx mA/\(∀f,RelO (fs.lookup f) (mA f))/\PySem.Within mA (fs.map (·.1))
 | .own _=>∃o,h.get? a=some o
 | .xd fs=>∃mA,h.Ns1 a mA/\∀f,RelO (fs.lookup f) (mA f)
 | .rng lo hi=>∃t u v,h.get? a=some {cls:=.type "range",data:=.fields #[.int lo t,.int hi u,.int 1 v]}
 | .frz o u=>h.get? a=some o/\ObjOk H h a u
 | .tbl ps=>h.get? a=some {cls:=.none,data:=.fields ps}
 | .cod p q=>∃ps:Array Value,h.get? a=some {cls:=.none,data:=.fields ps}/\TriplesOk ps.toList/\∀v,codeAmong p ps.toList=some v->∃c oc,v = .ref c/\H c=some (.frz oc (.own c))/\isCod oc q
 | .met f x=>h.get? a=some (PySem.W.methodObj (.ref f) (.ref x))
 | .ext φ=>φ h/\(∃o,h.get? a=some o)/\∀h1 h2:Heap,φ h1->(∀o,h1.get? a=some o->h2.get? a=some o)->φ h2
def HOk (H:Hp)(h:Heap):Prop:=∀a o,H a=some o->ObjOk P w H h a o
end
section
variable {P:Program}{w:World}{H H':Hp}{h h':Heap}{a:Addr}{o:HO}
theorem ObjOk.lt (x:ObjOk P w H h a o):a<h.objs.size:=by
 cases o with
 |lst xs=>obtain⟨_,_,_,_,e⟩:=x;exact Heap.lt_size e
 |tup xs=>obtain⟨_,_,_,p⟩:=x;exact p.lt
 |dK kvs=>obtain⟨_,_,_,_,o,_,_,e,_⟩:=x;exact Heap.lt_size e
 |dT kvs=>obtain⟨_,_,_,_,o,_,_,e,_⟩:=x;exact Heap.lt_size e
 |set S n=>obtain⟨o,_,_,_,e,_⟩:=x;exact Heap.lt_size e
 |ins C dx fs=>obtain⟨_,_,_,e,_⟩:=x;exact Heap.lt_size e
 |own y=>obtain⟨_,e⟩:=x;exact Heap.lt_size e
 |xd fs=>obtain⟨_,⟨_,_,_,e,_⟩,_⟩:=x;exact Heap.lt_size e
 |rng lo hi=>obtain⟨_,_,_,e⟩:=x;exact Heap.lt_size e
 |frz ob u=>obtain⟨e,_⟩:=x;exact Heap.lt_size e
 |tbl ps=>exact Heap.lt_size (show h.get? a=some _ from x)
 |cod p q=>obtain⟨_,e,_⟩:=x;exact Heap.lt_size e
 |met f y=>exact Heap.lt_size (show h.get? a=some _ from x)
 |ext φ=>obtain⟨_,⟨_,e⟩,_⟩:=x;exact Heap.lt_size e
theorem Paired.mapP {α β:Type}{F G:α->β->Prop}:∀{l₁:List α} {l₂:List β},Paired F l₁ l₂->(∀a b,F a b->G a b)->Paired G l₁ l₂
 |_,_,.nil,_=>.nil
 |_,_,.cons r t,f=>.cons (f _ _ r) (Paired.mapP t f)
theorem ObjOk.stay (x:ObjOk P w H h a o)(k:∀b u,(b=a∨H b=some (.own a))->h.get? b=some u->h'.get? b=some u)
  (ho:∀b,H b=some (.own a)->H' b=some (.own a)) (ht:∀b u,H b=some u->refd u->H' b=some u):ObjOk P w H' h' a o:=by
 induction o with
 |lst xs=>obtain⟨z,its,n,r,e⟩:=x;exact⟨z,its,n,r,k _ _ (.inl rfl) e⟩
 |tup xs=>obtain⟨z,its,r,ob,e,c⟩:=x;exact⟨z,its,r,ob,k _ _ (.inl rfl) e,c⟩
 |dK kvs=>obtain⟨z,y,vs,r,ob,es,ep,e,c⟩:=x;exact⟨z,y,vs,r,ob,es,ep,k _ _ (.inl rfl) e,c⟩
 |dT kvs=>
  obtain⟨z,y,xs,r,ob,es,ep,e,c⟩:=x
  exact⟨z,y,xs,Paired.mapP r λp q z=>⟨z.1,ht _ _ z.2.1 (.inl ⟨_,rfl⟩),z.2.2⟩,ob,es,ep,k _ _ (.inl rfl) e,c⟩
 |set S n=>obtain⟨ob,es,ep,t,e,c⟩:=x;exact⟨ob,es,ep,t,k _ _ (.inl rfl) e,c⟩
 |ins C dx fs=>
  obtain⟨d,z,ne,e,mA,⟨od,es,ep,e2,c⟩,r⟩:=x
  exact⟨ho _ d,z,ne,k _ _ (.inl rfl) e,mA,⟨od,es,ep,k _ _ (.inr d) e2,c⟩,r⟩
 |own y=>obtain⟨ob,e⟩:=x;exact⟨ob,k _ _ (.inl rfl) e⟩
 |xd fs=>obtain⟨mA,⟨od,es,ep,e,c⟩,r⟩:=x;exact⟨mA,⟨od,es,ep,k _ _ (.inl rfl) e,c⟩,r⟩
 |rng lo hi=>obtain⟨t,u,v,e⟩:=x;exact⟨t,u,v,k _ _ (.inl rfl) e⟩
 |frz ob u ih=>obtain⟨e,q⟩:=x;exact⟨k _ _ (.inl rfl) e,ih q⟩
 |tbl ps=>
  have e:h.get? a=some {cls:=.none,data:=.fields ps}:=x
  show h'.get? a=some {cls:=.none,data:=.fields ps}
  exact k a _ (.inl rfl) e
 |cod p q=>
  obtain⟨ps,e,ht',hc⟩:=x
  exact⟨ps,k _ _ (.inl rfl) e,ht',λv hv=>let⟨c,oc,e1,e2,e3⟩:=hc v hv;⟨c,oc,e1,ht _ _ e2 (.inr ⟨_,_,_,rfl,e3⟩),e3⟩⟩
 |met f y=>
  have e:h.get? a=some (PySem.W.methodObj (.ref f) (.ref y)):=x
  show h'.get? a=some (PySem.W.methodObj (.ref f) (.ref y))
  exact k a _ (.inl rfl) e
 |ext φ=>obtain⟨p,⟨o,e⟩,st⟩:=x;exact⟨st _ _ p λo q=>k _ _ (.inl rfl) q,⟨o,k _ _ (.inl rfl) e⟩,st⟩
theorem HOk.lt (x:HOk P w H h)(e:H a=some o):a<h.objs.size:=(x a o e).lt
theorem HOk.fresh (x:HOk P w H h)(e:h.objs.size<=a):H a=none:=by
 cases q:H a with
 |none=>rfl
 |some u=>exact absurd (Nat.lt_of_lt_of_le (x.lt q) e) (Nat.lt_irrefl _)
theorem HOk.kept (x:HOk P w H h)(k:∀b u,h.get? b=some u->h'.get? b=some u):HOk P w H h':=λa o e=>
 (x a o e).stay (λb u _ q=>k b u q) (λ_ q=>q) λ_ _ q _=>q
theorem HOk.laid (x:HOk P w H h)(k:∀b u,h.get? b=some u->h'.get? b=some u)(hp:h.objs.size<=a)(new:ObjOk P w (upd H a o) h' a o):HOk P w (upd H a o) h':=λb u e=>by
 have hn:=x.fresh hp
 by_cases hb:b=a
 .subst hb;rw[Xa0]at e;cases e;exact new
 .rw [upd_ne hb]at e
  exact (x b u e).stay (λc v _ q=>k c v q) (λc q=>by rw[upd_ne (ne_of_none q hn)];exact q) λc xs q _=>by rw[upd_ne (ne_of_none q hn)];exact q
end
def Rd (H:Hp)(a:Addr)(u:HO):Prop:=H a=some u∨∃o,H a=some (.frz o u)
theorem Rd.ok {P:Program}{w:World}{H:Hp}{h:Heap}{a:Addr}{u:HO}(r:Rd H a u)(x:HOk P w H h):ObjOk P w H h a u:=by
 rcases r with r | ⟨o,r⟩
 .exact x a u r
 .obtain ⟨_,q⟩:=x a _ r
  exact q
def Mut:Option HO->Prop
 |some (.lst _)=>True
 |some (.dK _)=>True
 |some (.dT _)=>True
 |some (.set _ _)=>True
 |some (.ins _ _ _)=>True
 |some (.ext _)=>True
 |_=>False
section
variable {P:Program}{w:World}{H:Hp}{h h':Heap}{x e:Addr}{o':HO}
theorem HOk.write (ok:HOk P w H h)(mu:Mut (H x))(he:e=x∨H e=some (.own x))(k:∀b u,b≠e->h.get? b=some u->h'.get? b=some u)(heo:∃u,h'.get? e=some u)
  (new:ObjOk P w (upd H x o') h' x o'):HOk P w (upd H x o') h':=λb u q=>by
 have nown:∀c y,H c=some (.own y)->c≠x:=λc y r z=>by subst z;rw[r]at mu;exact mu
 have ntup:∀c u,H c=some u->refd u->c≠x:=λc u r i z=>by subst z;rw[r]at mu;rcases i with⟨_,rfl⟩ | ⟨_,_,_,rfl,_⟩<;>exact mu
 by_cases hb:b=x
 .subst hb;rw[Xa0]at q;cases q;exact new
 .rw [upd_ne hb]at q
  by_cases hbe:b=e
  .have q':H b=some (.own x):=by
    rcases he with z |z
    .exact absurd (hbe.trans z) hb
    .rw [hbe];exact z
   rw[q]at q';cases q'
   obtain⟨v,hv⟩:=heo
   exact⟨v,by rw[hbe];exact hv⟩
  .refine (ok b u q).stay (λc v hc r=>k c v ?_ r) (λc r=>by rw[upd_ne (nown c b r)];exact r) λc xs r i=>by rw[upd_ne (ntup c xs r i)];exact r
   rcases hc with rfl |hc
   .exact hbe
   .rintro rfl
    rcases he with z |z
    .exact nown c b hc z
    .rw [hc]at z;cases z;exact hb rfl
end
structure Un (fs ex:List Addr) (H H':Hp) (h h':Heap):Prop where
 keep:∀b o,h.get? b=some o->H b=none->b∉fs->b∉ex->h'.get? b=some o
 slot:∀b o,h.get? b=some o->H b=none->b∈fs->b∉ex->∃sl,h'.get? b=some {o with slots:=sl}
 free:∀b o,h.get? b=some o->H b=none->b∉ex->H' b=none
 there:∀b o,h.get? b=some o->b∉ex->∃o',h'.get? b=some o'
 tups:∀b xs,H b=some (.tup xs)->H' b=some (.tup xs)
 frzs:∀b o u,H b=some (.frz o u)->H' b=some (.frz o u)
 tbls:∀b ps,H b=some (.tbl ps)->∃more,H' b=some (.tbl (ps++more))
section
variable {fs fs' ex ex':List Addr}{H H1 H2:Hp}{h h1 h2 h':Heap}{a x e:Addr}{o:HO}
theorem Un.any (u:Un fs ex H H1 h h1){b:Addr}{ob:Obj}(q:h.get? b=some ob)(n:H b=none)(hx:b∉ex):∃sl,h1.get? b=some {ob with slots:=sl}:=by
 by_cases hb:b∈fs
 .exact u.slot b ob q n hb hx
 .exact ⟨ob.slots,u.keep b ob q n hb hx⟩
theorem Un.trans (a:Un fs ex H H1 h h1)(b:Un fs ex H1 H2 h1 h2):Un fs ex H H2 h h2 where
 keep:=λc ob q n hc hx=>b.keep c ob (a.keep c ob q n hc hx) (a.free c ob q n hx) hc hx
 slot:=λc ob q n hc hx=>by
  obtain⟨sl,e1⟩:=a.slot c ob q n hc hx
  obtain⟨sl',e2⟩:=b.slot c _ e1 (a.free c ob q n hx) hc hx
  exact⟨sl',e2⟩
 free:=λc ob q n hx=>by
  obtain⟨o',e1⟩:=a.there c ob q hx
  exact b.free c o' e1 (a.free c ob q n hx) hx
 there:=λc ob q hx=>by
  obtain⟨o',e1⟩:=a.there c ob q hx
  exact b.there c o' e1 hx
 tups:=λc xs q=>b.tups c xs (a.tups c xs q)
 frzs:=λc ob xs q=>b.frzs c ob xs (a.frzs c ob xs q)
 tbls:=λc ps q=>by
  obtain⟨m1,e1⟩:=a.tbls c ps q
  obtain⟨m2,e2⟩:=b.tbls c _ e1
  exact⟨m1++m2,by rw[e2,Array.append_assoc]⟩
theorem Un.kept (k:∀b u,h.get? b=some u->h'.get? b=some u):Un fs ex H H h h':=
 ⟨λb ob q _ _ _=>k b ob q,λb ob q _ _ _=>⟨ob.slots,k b ob q⟩,λ_ _ _ n _=>n,λb ob q _=>⟨ob,k b ob q⟩,λ_ _ q=>q,λ_ _ _ q=>q,λ_ ps q=>⟨#[],by rw[q];simp⟩⟩
theorem Un.refl:Un fs ex H H h h:=Un.kept λ_ _ q=>q
theorem Un.laid (k:∀b u,h.get? b=some u->h'.get? b=some u)(hp:h.objs.size<=a)(hn:H a=none):Un fs ex H (upd H a o) h h' where
 keep:=λb u q _ _ _=>k b u q
 slot:=λb u q _ _ _=>⟨u.slots,k b u q⟩
 free:=λb u q n _=>by rw[upd_ne (Nat.ne_of_lt (Nat.lt_of_lt_of_le (Heap.lt_size q) hp))];exact n
 there:=λb u q _=>⟨u,k b u q⟩
 tups:=λb xs q=>by rw[upd_ne (ne_of_none q hn)];exact q
 frzs:=λb u xs q=>by rw[upd_ne (ne_of_none q hn)];exact q
 tbls:=λb ps q=>⟨#[],by rw[upd_ne (ne_of_none q hn),q];simp⟩
theorem Un.write (mu:Mut (H x))(he:e=x∨H e=some (.own x))(k:∀b u,b≠e->h.get? b=some u->h'.get? b=some u)(heo:∃u,h'.get? e=some u):Un fs ex H (upd H x o) h h':=by
 have hx:∀b,H b=none->b≠x:=λb n z=>by subst z;rw[n]at mu;exact mu
 have hb:∀b,H b=none->b≠e:=λb n z=>by
  subst z
  rcases he with r |r
  .exact hx b n r
  .rw [n]at r;cases r
 have hm:∀b u,H b=some u->¬ Mut (some u)->b≠x:=λb u q nm z=>by subst z;rw[q]at mu;exact nm mu
 refine⟨λb u q n _ _=>k b u (hb b n) q,λb u q n _ _=>⟨u.slots,k b u (hb b n) q⟩,λb u q n _=>by rw[upd_ne (hx b n)];exact n,λb u q _=>?_,
  λb xs q=>by rw[upd_ne (hm b _ q λz=>z)];exact q,λb u xs q=>by rw[upd_ne (hm b _ q λz=>z)];exact q,λb ps q=>⟨#[],by rw[upd_ne (hm b _ q λz=>z),q];simp⟩⟩
 by_cases hbe:b=e
 .subst hbe;exact heo
 .exact ⟨u,k b u hbe q⟩
end
def trk (h:Heap)(H:Hp):List Addr:=(List.range h.objs.size).filter λa=>(H a).isSome
def hidT (h:Heap)(H:Hp):Heap:=PySem.W.hideAll h (trk h H)
theorem hidT_size (h:Heap)(H:Hp):(hidT h H).objs.size=h.objs.size:=PySem.W.hideAll_size _ _
theorem hidT_get {h:Heap}{H:Hp}{b:Addr}{o:Obj}(e:h.get? b=some o)(n:H b=none):(hidT h H).get? b=some o:=
 PySem.W.hideAll_get _ e λhm=>by
  have q:(H b).isSome=true:=(List.mem_filter.mp hm).2
  rw[n]at q;simp at q
theorem of_hidT {h:Heap}{H:Hp}{b:Addr}{o:Obj}(e:(hidT h H).get? b=some o):h.get? b=some o/\H b=none:=by
 have e':h.get? b=some o:=PySem.W.of_hideAll (trk h H) e
 refine⟨e',?_⟩
 cases q:H b with
 |none=>rfl
 |some x=>
  have hm:b∈trk h H:=List.mem_filter.mpr ⟨List.mem_range.mpr (Heap.lt_size e'),by simp[q]⟩
  have z:(hidT h H).get? b=none:=PySem.W.hideAll_none (trk h H) hm
  rw[z]at e;cases e
def allNews (g h:Heap)(L:Addr):List (Addr×Obj):=(List.range h.objs.size).filterMap λa=>if a=L∨(g.get? a).isSome=true then none else (h.get? a).map λo=>(a,o)
def rest (g h:Heap)(L d:Addr):List (Addr×Obj):=(allNews g h L).filter λp=>decide (p.1≠d)
structure Mod (K:Frag) (mg:Str->Option Value) (base:Heap):Prop where
 kin:K.In base
 glob:base.Ns mainGlobals mg
 blt:∃mb,base.Ns builtinsNs mb/\∀x:Str,x ≠ "__name__"->mb x=bootBuiltins x
 nolimit:base.NoLimit
structure Cx where
 prog:Program
 w:World
 K:Frag
 mg:Str->Option Value
 base:Heap
 A:Around
 N:List Str
 s₀:Shared
 H₀:Hp
 env:Env
 outer:List Env
 stack:List Env
 ex:List Addr
 fn:Str->Bool
 calm:Bool
 pn:List (Addr×Obj)
 xe:Value->Shared->Prop
def frs (l:List Env):List Addr:=l.filterMap (·.frame)
abbrev Cx.fs (X:Cx):List Addr:=frs X.outer
def Vis (sc:Scope)(x:Str):Prop:=sc.names.lookup x=some .local∨sc.names.lookup x=some .cell∨sc.names.lookup x=some .free
def Loc (sc:Scope)(x:Str):Prop:=sc.names.lookup x=some .local∨sc.names.lookup x=some .cell
def Look (env:Env)(h:Heap)(m:Str->Option Value)(x:Str)(u:Value):Prop:=
 (env.kindOf x=some .local/\m x=some u)∨((env.kindOf x=some .cell∨env.kindOf x=some .free)/\∃c,env.cells.lookup x=some c/\h.IsCell c (some u))
structure Cx.Ok (X:Cx):Prop where
 mod:Mod X.K X.mg X.base
 kind:X.env.scope.kind = .function
 glob:X.env.globals=mainGlobals
 blt:X.env.builtins=builtinsNs
 above:X.s₀.heap.objs.size<=X.env.locals
 inj:∀x y c,X.env.cells.lookup x=some c->X.env.cells.lookup y=some c->x=y
 has:∀x,(X.env.kindOf x=some .cell∨X.env.kindOf x=some .free)->∃c,X.env.cells.lookup x=some c
 cab:∀x c,X.fn x=true->X.env.cells.lookup x=some c->X.s₀.heap.objs.size<=c
 hd:X.calm=true->X.A.handled=none
 frames:X.A.frames=some X.stack
 stk:X.stack=X.outer∨(X.stack=X.env::X.outer/\X.env.frame=some X.env.locals)
 exf:∀b∈X.ex,b≠X.env.locals/\∀x c,X.env.cells.lookup x=some c->c≠b
 bs:∀b o,X.base.get? b=some o->X.s₀.heap.get? b=some o/\X.H₀ b=none
 bsz:X.base.objs.size<=X.s₀.heap.objs.size
 noex:∀b o,X.base.get? b=some o->b∉X.ex
 exfs:∀b∈X.ex,b∉X.fs
 funs:X.s₀.heap.FunFrames X.base X.outer
 frf:∀b∈X.fs,X.H₀ b=none
structure Inv (X:Cx) (pins:List (Addr×Obj)) (Y:List (Option V)) (H:Hp) (s:Shared):Prop where
 ok:X.Ok
 os:s.os=X.s₀.os
 bare:AllBare s.gens
 base:Un X.fs X.ex X.H₀ H X.s₀.heap s.heap
 loc:∃m,s.heap.Ns X.env.locals m/\∀(i:Nat) (x:Str) (v:V),X.N[i]?=some x->Y[i]?=some (some v)->Vis X.env.scope x->∃u,RelV v u/\Look X.env s.heap m x u
 cell:∀x c,X.env.cells.lookup x=some c->∃v,s.heap.IsCell c v
 free:H X.env.locals=none
 freeC:∀x c,X.env.cells.lookup x=some c->H c=none
 pin:∀p∈X.pn++pins,s.heap.get? p.1=some p.2/\H p.1=none/\p.1≠X.env.locals/\p.1∉X.fs/\∀v,p.2.data≠.cell v
 hok:HOk X.prog X.w H s.heap
 len:Y.length=X.N.length
section
variable {X:Cx}{pins:List (Addr×Obj)}{Y:List (Option V)}{H H':Hp}{s:Shared}{h':Heap}
theorem Cx.Ok.nofr (ok:X.Ok){b:Addr}{o:Obj}(e:X.base.get? b=some o):b∉X.fs:=λhb=>by
 have:=(ok.funs.mem hb).1
 rw[e]at this;cases this
theorem Inv.bs (I:Inv X pins Y H s):∀b o,X.base.get? b=some o->s.heap.get? b=some o/\H b=none:=λb o e=>
 ⟨I.base.keep b o (I.ok.bs b o e).1 (I.ok.bs b o e).2 (I.ok.nofr e) (I.ok.noex b o e),I.base.free b o (I.ok.bs b o e).1 (I.ok.bs b o e).2 (I.ok.noex b o e)⟩
theorem Inv.bk (I:Inv X pins Y H s):∀b o,X.base.get? b=some o->s.heap.get? b=some o:=λb o e=>(I.bs b o e).1
theorem Inv.mod (I:Inv X pins Y H s):Mod X.K X.mg X.base:=I.ok.mod
theorem Inv.kIn (I:Inv X pins Y H s):X.K.In s.heap:=I.ok.mod.kin.keeps I.bk
theorem Inv.nolimit (I:Inv X pins Y H s):s.heap.NoLimit:=I.ok.mod.nolimit.keeps I.bk
theorem Inv.lt (I:Inv X pins Y H s):X.env.locals<s.heap.objs.size:=let⟨_,hn,_⟩:=I.loc;hn.lt
theorem Inv.sz (I:Inv X pins Y H s):X.s₀.heap.objs.size<=s.heap.objs.size:=Nat.le_trans I.ok.above (Nat.le_of_lt I.lt)
theorem Inv.nofs (I:Inv X pins Y H s){a:Addr}(h:s.heap.objs.size<=a):a∉X.fs:=λhb=>by
 obtain⟨_,o,ho,_⟩:=I.ok.funs.mem hb
 exact absurd (Nat.lt_of_lt_of_le (Heap.lt_size ho) (Nat.le_trans I.sz h)) (Nat.lt_irrefl _)
theorem Inv.cne (I:Inv X pins Y H s):∀x c,X.env.cells.lookup x=some c->c≠X.env.locals:=λx c e z=>by
 obtain⟨v,o,ho,hd⟩:=I.cell x c e
 obtain⟨m,⟨o',es,ep,ho',hd',_⟩,_⟩:=I.loc
 rw[z,ho']at ho;cases ho;rw[hd']at hd;cases hd
theorem Inv.funs (I:Inv X pins Y H s):s.heap.FunFrames X.base X.outer:=by
 have all:∀(l:List Env),(∀b∈frs l,b∈X.fs)->X.s₀.heap.FunFrames X.base l->s.heap.FunFrames X.base l:=by
  intro l
  induction l with
  |nil=>intro _ _;trivial
  |cons env r ih=>
   intro hs hl
   obtain⟨hk,⟨L,o,hf,hn,ho,hd⟩,hr⟩:=hl
   have hL:L∈X.fs:=hs L (by unfold frs;rw[List.filterMap_cons,hf];exact List.mem_cons_self)
   obtain⟨sl,e⟩:=I.base.slot L o ho (I.ok.frf L hL) hL λz=>I.ok.exfs L z hL
   exact⟨hk,⟨L,_,hf,hn,e,hd⟩,ih (λb hb=>hs b (by unfold frs;rw[List.filterMap_cons,hf];exact List.mem_cons_of_mem _ hb)) hr⟩
 exact all X.outer (λ_ hb=>hb) I.ok.funs
theorem Inv.stack (I:Inv X pins Y H s):s.heap.FunFrames X.base X.stack:=by
 rcases I.ok.stk with e | ⟨e,hf⟩
 .rw [e];exact I.funs
 .rw [e]
  obtain⟨m,hn,_⟩:=I.loc
  refine .cons (by rw[I.ok.kind];decide) hf hn ?_ I.funs
  exact Heap.get?_none_of_le (Nat.le_trans I.ok.bsz I.ok.above)
theorem Inv.stkSub (I:Inv X pins Y H s):∀b∈frs X.stack,b∈X.env.locals::X.fs:=λb hb=>by
 rcases I.ok.stk with e | ⟨e,hf⟩
 .rw [e]at hb;exact List.mem_cons_of_mem _ hb
 .rw [e]at hb
  unfold frs at hb
  rw[List.filterMap_cons,hf]at hb
  exact hb
theorem Inv.stkFree (I:Inv X pins Y H s):∀b∈frs X.stack,H b=none:=λb hb=>by
 rcases List.mem_cons.mp (I.stkSub b hb) with e |hb
 .rw [e];exact I.free
 .obtain ⟨_,o,ho,_⟩:=I.ok.funs.mem hb
  exact I.base.free b o ho (I.ok.frf b hb) λz=>I.ok.exfs b z hb
theorem Inv.step {g':Array GenState}{t':Nat}{d':Drawn}{ch:List Addr}(I:Inv X pins Y H s)
  (hch:∀b∈ch,(b∈X.ex∨X.s₀.heap.objs.size<=b)/\b≠X.env.locals/\(∀x c,X.env.cells.lookup x=some c->c≠b)/\∀p∈X.pn++pins,p.1≠b)
  (keep:∀b o,b≠X.env.locals->b∉X.fs->b∉ch->s.heap.get? b=some o->H b=none->h'.get? b=some o)
  (slot:∀b o,b≠X.env.locals->b∈X.fs->b∉ch->s.heap.get? b=some o->H b=none->∃sl,h'.get? b=some {o with slots:=sl}) (free:∀b o,b∉ch->s.heap.get? b=some o->H b=none->H' b=none)
  (there:∀b o,b∉ch->s.heap.get? b=some o->∃o',h'.get? b=some o')
  (tups:∀b xs,H b=some (.tup xs)->H' b=some (.tup xs)) (frzs:∀b o u,H b=some (.frz o u)->H' b=some (.frz o u)) (tbls:∀b ps,H b=some (.tbl ps)->∃more,H' b=some (.tbl (ps++more)))
  (ns:∀m,s.heap.Ns X.env.locals m->h'.Ns X.env.locals m) (hok:HOk X.prog X.w H' h') (hg:AllBare g'):
  Inv X pins Y H' {s with heap:=h',gens:=g',drawn:=d',toks:=t'}:=by
 have neL:∀b o,X.s₀.heap.get? b=some o->b≠X.env.locals:=λb o e=>Nat.ne_of_lt (Nat.lt_of_lt_of_le (Heap.lt_size e) I.ok.above)
 have neC:∀b o,X.s₀.heap.get? b=some o->b∉X.ex->b∉ch:=λb o e hx hb=>by
  rcases (hch b hb).1 with z |z
  .exact hx z
  .exact absurd (Nat.lt_of_lt_of_le (Heap.lt_size e) z) (Nat.lt_irrefl _)
 have cellK:∀x c,X.env.cells.lookup x=some c->∀v,s.heap.IsCell c v->h'.IsCell c v:=λx c e v ⟨o,ho,hd⟩=>by
  have nch:c∉ch:=λz=>(hch c z).2.2.1 x c e rfl
  by_cases hc:c∈X.fs
  .obtain ⟨sl,q⟩:=slot c o (I.cne x c e) hc nch ho (I.freeC x c e)
   exact⟨_,q,hd⟩
  .exact ⟨o,keep c o (I.cne x c e) hc nch ho (I.freeC x c e),hd⟩
 refine⟨I.ok,I.os,hg,⟨λb o e n hb hx=>?_,λb o e n hb hx=>?_,λb o e n hx=>?_,λb o e hx=>?_,λb xs e=>tups b xs (I.base.tups b xs e),λb o xs e=>frzs b o xs (I.base.frzs b o xs e),λb ps e=>?_⟩,?_,λx c e=>?_,?_,λx c e=>?_,λp hp=>?_,hok,I.len⟩
 .exact keep b o (neL b o e) hb (neC b o e hx) (I.base.keep b o e n hb hx) (I.base.free b o e n hx)
 .obtain ⟨sl,e1⟩:=I.base.slot b o e n hb hx
  obtain⟨sl',e2⟩:=slot b _ (neL b o e) hb (neC b o e hx) e1 (I.base.free b o e n hx)
  exact⟨sl',e2⟩
 .obtain ⟨o',e1⟩:=I.base.there b o e hx
  exact free b o' (neC b o e hx) e1 (I.base.free b o e n hx)
 .obtain ⟨o',e1⟩:=I.base.there b o e hx
  exact there b o' (neC b o e hx) e1
 .obtain ⟨m1,e1⟩:=I.base.tbls b ps e
  obtain⟨m2,e2⟩:=tbls b _ e1
  exact⟨m1++m2,by rw[e2,Array.append_assoc]⟩
 .obtain ⟨m,hn,hl⟩:=I.loc
  refine⟨m,ns m hn,λi x v e1 e2 e3=>?_⟩
  obtain⟨u,r,l⟩:=hl i x v e1 e2 e3
  refine⟨u,r,?_⟩
  rcases l with l | ⟨k,c,e,z⟩
  .exact .inl l
  .exact .inr ⟨k,c,e,cellK x c e _ z⟩
 .obtain ⟨v,z⟩:=I.cell x c e
  exact⟨v,cellK x c e v z⟩
 .obtain ⟨m,⟨o,_,_,ho,_⟩,_⟩:=I.loc
  exact free _ o (λz=>(hch _ z).2.1 rfl) ho I.free
 .obtain ⟨v,o,ho,hd⟩:=I.cell x c e
  exact free c o (λz=>(hch c z).2.2.1 x c e rfl) ho (I.freeC x c e)
 .obtain ⟨e,n,ne,nf,d⟩:=I.pin p hp
  have nch:p.1∉ch:=λz=>(hch p.1 z).2.2.2 p hp rfl
  exact⟨keep p.1 p.2 ne nf nch e n,free p.1 p.2 nch e n,ne,nf,d⟩
theorem Inv.un {t':Nat}(I:Inv X pins Y H s)(u:Un X.fs [] H H' s.heap h')(hok:HOk X.prog X.w H' h'):Inv X pins Y H' {s with heap:=h',toks:=t'}:=by
 obtain⟨m,⟨o,es,ep,ho,r⟩,_⟩:=id I.loc
 obtain⟨sl,hL⟩:=u.any ho I.free (by simp)
 exact I.step (g':=s.gens) (d':=s.drawn) (ch:=[]) (λ_ z=>nomatch z) (λb o _ hb _ e n=>u.keep b o e n hb (by simp)) (λb o _ hb _ e n=>u.slot b o e n hb (by simp)) (λb o _ e n=>u.free b o e n (by simp)) (λb o _ e=>u.there b o e (by simp)) u.tups u.frzs u.tbls (λm' hm=>by
  obtain⟨o',es',ep',ho',r'⟩:=hm
  rw[ho]at ho';cases ho'
  exact⟨_,es',ep',hL,r'⟩) hok I.bare
theorem Inv.call {g':Array GenState}{t':Nat}{d':Drawn}{ch:List Addr}(I:Inv X pins Y H s)(u:Un (frs X.stack) ch H H' s.heap h')(hok:HOk X.prog X.w H' h')(hg:AllBare g')
  (hch:∀b∈ch,(b∈X.ex∨X.s₀.heap.objs.size<=b)/\b≠X.env.locals/\(∀x c,X.env.cells.lookup x=some c->c≠b)/\∀p∈X.pn++pins,p.1≠b):
  Inv X pins Y H' {s with heap:=h',gens:=g',drawn:=d',toks:=t'}:=by
 obtain⟨m,⟨o,es,ep,ho,r⟩,_⟩:=id I.loc
 obtain⟨sl,hL⟩:=u.any ho I.free λz=>(hch _ z).2.1 rfl
 exact I.step hch (λb o hL hb hc e n=>u.keep b o e n (λz=>(List.mem_cons.mp (I.stkSub b z)).elim hL hb) hc) (λb o _ _ hc e n=>u.any e n hc) (λb o hc e n=>u.free b o e n hc) (λb o hc e=>u.there b o e hc) u.tups u.frzs u.tbls (λm' hm=>by
  obtain⟨o',es',ep',ho',r'⟩:=hm
  rw[ho]at ho';cases ho'
  exact⟨_,es',ep',hL,r'⟩) hok hg
theorem Inv.turned {t':Nat}{it:Addr}(I:Inv X pins Y H s)(k:∀b o,b≠it->s.heap.get? b=some o->h'.get? b=some o)(hn:H it=none)(hL:it≠X.env.locals)
  (h1:it∈X.ex∨X.s₀.heap.objs.size<=it) (h2:∀x c,X.env.cells.lookup x=some c->c≠it) (h3:∀p∈X.pn++pins,p.1≠it):Inv X pins Y H {s with heap:=h',toks:=t'}:=by
 have nit:∀b u,H b=some u->b≠it:=λb u e z=>by rw[z,hn]at e;cases e
 refine I.step (g':=s.gens) (d':=s.drawn) (ch:=[it]) (λb hb=>?_) (λb o _ _ hc e _=>k b o (λz=>hc (by simp[z])) e) (λb o _ _ hc e _=>⟨o.slots,k b o (λz=>hc (by simp[z])) e⟩) (λ_ _ _ _ n=>n)
  (λb o hc e=>⟨o,k b o (λz=>hc (by simp[z])) e⟩) (λ_ _ e=>e) (λ_ _ _ e=>e) (λb ps e=>⟨#[],by rw[e];simp⟩) (λm hm=>?_) (λb u e=>?_) I.bare
 .have e:b=it:=by simpa using hb
  subst e
  exact⟨h1,hL,h2,h3⟩
 .obtain ⟨o,es,ep,ho,r⟩:=hm
  exact⟨o,es,ep,k _ o (Ne.symm hL) ho,r⟩
 .refine (I.hok b u e).stay (λc v hc q=>k c v ?_ q) (λ_ q=>q) λ_ _ q _=>q
  rcases hc with z |z
  .rw [z];exact nit b u e
  .exact nit c _ z
theorem Inv.tok (I:Inv X pins Y H s)(t:Nat):Inv X pins Y H {s with toks:=t}:=I.un (h':=s.heap) (t':=t) Un.refl I.hok
theorem Inv.kept {t':Nat}(I:Inv X pins Y H s)(k:∀b u,s.heap.get? b=some u->h'.get? b=some u):Inv X pins Y H {s with heap:=h',toks:=t'}:=I.un (Un.kept k) (I.hok.kept k)
theorem Inv.laid {a:Addr}{o:HO}{t':Nat}(I:Inv X pins Y H s)(k:∀b u,s.heap.get? b=some u->h'.get? b=some u)(hp:s.heap.objs.size<=a)(new:ObjOk X.prog X.w (upd H a o) h' a o):
  Inv X pins Y (upd H a o) {s with heap:=h',toks:=t'}:=I.un (Un.laid k hp (I.hok.fresh hp)) (I.hok.laid k hp new)
theorem Inv.write {x e:Addr}{o:HO}{t':Nat}(I:Inv X pins Y H s)(mu:Mut (H x))(he:e=x∨H e=some (.own x))(k:∀b u,b≠e->s.heap.get? b=some u->h'.get? b=some u)(heo:∃u,h'.get? e=some u)
  (new:ObjOk X.prog X.w (upd H x o) h' x o):Inv X pins Y (upd H x o) {s with heap:=h',toks:=t'}:=I.un (Un.write mu he k heo) (I.hok.write mu he k heo new)
theorem Inv.pins_of {pins':List (Addr×Obj)}(I:Inv X pins Y H s)(h:∀p∈pins',s.heap.get? p.1=some p.2/\H p.1=none/\p.1≠X.env.locals/\p.1∉X.fs/\∀v,p.2.data≠.cell v):Inv X pins' Y H s:=
 ⟨I.ok,I.os,I.bare,I.base,I.loc,I.cell,I.free,I.freeC,λp hp=>(List.mem_append.mp hp).elim (λz=>I.pin p (List.mem_append_left _ z)) (h p),I.hok,I.len⟩
theorem nodup_ix {N:List Str}(hN:N.Nodup){i j:Nat}{x:Str}(a:N[i]?=some x)(b:N[j]?=some x):i=j:=by
 obtain⟨h1,e1⟩:=List.getElem?_eq_some_iff.mp a
 obtain⟨h2,e2⟩:=List.getElem?_eq_some_iff.mp b
 exact (List.getElem_inj hN).mp (e1.trans e2.symm)
theorem store_ok2 {M:Model}{A:Around}{E:Value->Shared->Prop}{i:Nat}{x:Str}{v:V}{u:Value}{Q:Unit->Shared->Prop}(I:Inv X pins Y H s)(hN:X.N.Nodup)(hi:X.N[i]?=some x)(hx:Loc X.env.scope x)(r:RelV v u)
  (h:∀s',Inv X pins (Y.set i (some v)) H s'->(∃a,Heap.SameBut a s.heap s'.heap/\(a=X.env.locals∨X.env.cells.lookup x=some a))->Q () s') (hf:X.fn x=true∨X.env.scope.names.lookup x=some .local:=by first |exact .inl rfl |exact .inr rfl |assumption):wpAny M A (storeName X.env x u) Q E s:=by
 obtain⟨m,hn,hl⟩:=id I.loc
 have hcls:(X.env.scope.kind == .class || (X.env.scope.kind == .module && X.env.locals != X.env.globals))=false:=by rw[I.ok.kind];rfl
 have hiσ:i<Y.length:=by rw[I.len];exact (List.getElem?_eq_some_iff.mp hi).1
 have cne:=I.cne
 have tracked:∀{a:Addr} {h':Heap},(∃o,s.heap.get? a=some o/\H a=none)->Heap.SameBut a s.heap h'->HOk X.prog X.w H h':=λ{a h'} ha hs b ob e=>by
  obtain⟨_,_,hfree⟩:=ha
  refine (I.hok b ob e).stay (λc w' hc q=>(hs.2 c ?_).trans q) (λ_ q=>q) λ_ _ q _=>q
  rintro rfl
  rcases hc with rfl |hc
  .rw [hfree]at e;cases e
  .rw [hfree]at hc;cases hc
 rcases hx with hk |hk
 .refine wpAny_storeName_local hk hn (λh' hn' hs=>?_) hcls
  obtain⟨oL,_,_,hoL,_⟩:=id hn
  refine h _ ⟨I.ok,I.os,I.bare,⟨λb o e n hb hx=>?_,λb o e n hb hx=>?_,I.base.free,λb o e hx=>?_,I.base.tups,I.base.frzs,I.base.tbls⟩,⟨_,hn',λj y v' e1 e2 e3=>?_⟩,λy c e=>?_,I.free,I.freeC,λp hp=>?_,tracked ⟨oL,hoL,I.free⟩ hs,by simpa using I.len⟩ ⟨_,hs,.inl rfl⟩
  .exact (hs.2 b (Nat.ne_of_lt (Nat.lt_of_lt_of_le (Heap.lt_size e) I.ok.above))).trans (I.base.keep b o e n hb hx)
  .obtain ⟨sl,e1⟩:=I.base.slot b o e n hb hx
   exact⟨sl,(hs.2 b (Nat.ne_of_lt (Nat.lt_of_lt_of_le (Heap.lt_size e) I.ok.above))).trans e1⟩
  .obtain ⟨o',e1⟩:=I.base.there b o e hx
   exact⟨o',(hs.2 b (Nat.ne_of_lt (Nat.lt_of_lt_of_le (Heap.lt_size e) I.ok.above))).trans e1⟩
  .by_cases hj:j=i
   .subst hj
    rw[hi]at e1;cases e1
    rw[List.getElem?_set_self hiσ]at e2
    cases e2
    exact⟨u,r,.inl ⟨hk,by simp⟩⟩
   .rw [List.getElem?_set_ne (Ne.symm hj)]at e2
    obtain⟨u',r',q⟩:=hl j y v' e1 e2 e3
    refine⟨u',r',?_⟩
    rcases q with⟨k,e⟩ | ⟨k,c,e,z⟩
    .refine .inl ⟨k,?_⟩
     have:y≠x:=λe=>hj (nodup_ix hN e1 (e▸hi))
     simp[this,e]
    .exact .inr ⟨k,c,e,z.sameBut hs (cne y c e)⟩
  .obtain ⟨w',z⟩:=I.cell y c e
   exact⟨w',z.sameBut hs (cne y c e)⟩
  .obtain ⟨e,n,ne,nf,d⟩:=I.pin p hp
   exact⟨(hs.2 p.1 ne).trans e,n,ne,nf,d⟩
 .have hfn:X.fn x=true:=by
   rcases hf with z |z
   .exact z
   .rw [z]at hk;cases hk
  obtain⟨c,hc⟩:=I.ok.has x (.inl hk)
  obtain⟨w',z⟩:=I.cell x c hc
  refine wpAny_storeName_cell I.ok.kind hk hc z (λh' hc' hs=>?_)
  obtain⟨oc,hoc,hocd⟩:=id z
  refine h {s with heap:=h'} ⟨I.ok,I.os,I.bare,⟨λb o e n hb hx=>?_,λb o e n hb hx=>?_,I.base.free,λb o e hx=>?_,I.base.tups,I.base.frzs,I.base.tbls⟩,⟨m,hn.sameBut hs (Ne.symm (cne x c hc)),λj y v' e1 e2 e3=>?_⟩,λy c' e=>?_,I.free,I.freeC,λp hp=>?_,tracked ⟨oc,hoc,I.freeC x c hc⟩ hs,by simpa using I.len⟩ ⟨c,hs,.inr hc⟩
  .exact (hs.2 b (Nat.ne_of_lt (Nat.lt_of_lt_of_le (Heap.lt_size e) (I.ok.cab x c hfn hc)))).trans (I.base.keep b o e n hb hx)
  .obtain ⟨sl,e1⟩:=I.base.slot b o e n hb hx
   exact⟨sl,(hs.2 b (Nat.ne_of_lt (Nat.lt_of_lt_of_le (Heap.lt_size e) (I.ok.cab x c hfn hc)))).trans e1⟩
  .obtain ⟨o',e1⟩:=I.base.there b o e hx
   exact⟨o',(hs.2 b (Nat.ne_of_lt (Nat.lt_of_lt_of_le (Heap.lt_size e) (I.ok.cab x c hfn hc)))).trans e1⟩
  .by_cases hj:j=i
   .subst hj
    rw[hi]at e1;cases e1
    rw[List.getElem?_set_self hiσ]at e2
    cases e2
    exact⟨u,r,.inr ⟨.inl hk,c,hc,hc'⟩⟩
   .rw [List.getElem?_set_ne (Ne.symm hj)]at e2
    obtain⟨u',r',q⟩:=hl j y v' e1 e2 e3
    refine⟨u',r',?_⟩
    rcases q with q | ⟨k,c',e,z'⟩
    .exact .inl q
    .refine .inr ⟨k,c',e,z'.sameBut hs ?_⟩
     rintro rfl
     exact hj (nodup_ix hN e1 (I.ok.inj _ _ _ e hc▸hi))
  .by_cases hcc:c'=c
   .subst hcc;exact⟨_,hc'⟩
   .obtain ⟨w2,z2⟩:=I.cell y c' e
    exact⟨w2,z2.sameBut hs hcc⟩
  .obtain ⟨e,n,ne,nf,d⟩:=I.pin p hp
   refine⟨(hs.2 p.1 ?_).trans e,n,ne,nf,d⟩
   intro q
   rw[q,hoc]at e
   have q':oc=p.2:=Option.some.inj e
   exact d w' (by rw[<- q'];exact hocd)
theorem store_ok {M:Model}{A:Around}{E:Value->Shared->Prop}{i:Nat}{x:Str}{v:V}{u:Value}{Q:Unit->Shared->Prop}(I:Inv X pins Y H s)(hN:X.N.Nodup)(hi:X.N[i]?=some x)(hx:Loc X.env.scope x)(r:RelV v u)
  (h:∀s',Inv X pins (Y.set i (some v)) H s'->Q () s') (hf:X.fn x=true∨X.env.scope.names.lookup x=some .local:=by first |exact .inl rfl |exact .inr rfl |assumption):wpAny M A (storeName X.env x u) Q E s:=
 store_ok2 I hN hi hx r (λs' I' _=>h s' I') hf
theorem Inv.call' {s':Shared}{ch:List Addr}(I:Inv X pins Y H s)(ho:s'.os=s.os)(u:Un (frs X.stack) ch H H' s.heap s'.heap)(hok:HOk X.prog X.w H' s'.heap)(hg:AllBare s'.gens)
  (hch:∀b∈ch,(b∈X.ex∨X.s₀.heap.objs.size<=b)/\b≠X.env.locals/\(∀x c,X.env.cells.lookup x=some c->c≠b)/\∀p∈X.pn++pins,p.1≠b):Inv X pins Y H' s':=by
 obtain⟨h',g',d',t',o'⟩:=s'
 have e:o'=s.os:=ho
 subst e
 exact I.call (g':=g') (t':=t') (d':=d') u hok hg hch
end
abbrev XK:=Value->Option Addr->Hp->Prop
abbrev St:=List (Option V)
abbrev VK:=V->Hp->Prop
abbrev TE:=St->Hp->VK->Prop
abbrev TT:=St->Hp->(Bool->Hp->Prop)->Prop
abbrev TA:=St->Hp->(List V->Hp->Prop)->Prop
structure Ends where
 nx:St->Hp->Prop
 rt:VK
 bk:St->Hp->Prop:=λ_ _=>False
 ct:St->Hp->Prop:=λ_ _=>False
abbrev TS:=Ends->St->Hp->Prop
def EP (X:Cx)(pins:List (Addr×Obj))(Y:St)(Q:VK)(u:Value)(s':Shared):Prop:=∃v H',Inv X pins Y H' s'/\RelV v u/\Q v H'
def TP (X:Cx)(pins:List (Addr×Obj))(Y:St)(Q:Bool->Hp->Prop)(b:Bool)(s':Shared):Prop:=∃H',Inv X pins Y H' s'/\Q b H'
def AP (X:Cx)(pins:List (Addr×Obj))(Y:St)(Q:List V->Hp->Prop)(us:List Value)(s':Shared):Prop:=∃vs H',Inv X pins Y H' s'/\Vals vs us/\Q vs H'
def SP (X:Cx)(pins:List (Addr×Obj))(D:Ends)(f:Flow)(s':Shared):Prop:=
 match f with
 | .next=>∃Y' H',Inv X pins Y' H' s'/\D.nx Y' H'
 | .brk=>∃Y' H',Inv X pins Y' H' s'/\D.bk Y' H'
 | .cont=>∃Y' H',Inv X pins Y' H' s'/\D.ct Y' H'
 | .ret u=>∃v Y' H',Inv X pins Y' H' s'/\RelV v u/\D.rt v H'
def PE (X:Cx)(e:Expr)(t:TE):Prop:=
 ∀(pins:List (Addr×Obj)) (s:Shared) (Y:St) (H:Hp) (Q:VK),Inv X pins Y H s->t Y H Q->wpAny (model X.prog X.w) X.A (eval e X.env) (EP X pins Y Q) X.xe s
def PT (X:Cx)(e:Expr)(t:TT):Prop:=
 ∀(pins:List (Addr×Obj)) (s:Shared) (Y:St) (H:Hp) (Q:Bool->Hp->Prop),Inv X pins Y H s->t Y H Q->wpAny (model X.prog X.w) X.A (isTrue e X.env (eval e X.env)) (TP X pins Y Q) X.xe s
def PW (X:Cx)(e:Expr)(t:TT):Prop:=
 ∀(whole:Sem Value) (pins:List (Addr×Obj)) (s:Shared) (Y:St) (H:Hp) (Q:Bool->Hp->Prop),Inv X pins Y H s->t Y H Q->wpAny (model X.prog X.w) X.A (isTrue e X.env whole) (TP X pins Y Q) X.xe s
theorem PW.pt {X:Cx}{e:Expr}{t:TT}(h:PW X e t):PT X e t:=h _
def PA (X:Cx)(es:List Expr)(t:TA):Prop:=
 ∀(pos:Pos) (pins:List (Addr×Obj)) (s:Shared) (Y:St) (H:Hp) (Q:List V->Hp->Prop),Inv X pins Y H s->t Y H Q->wpAny (model X.prog X.w) X.A (spliced (backTo pos (starEach es X.env))) (AP X pins Y Q) X.xe s
def PS (X:Cx)(st:Stmt)(t:TS):Prop:=
 ∀(pins:List (Addr×Obj)) (s:Shared) (Y:St) (H:Hp) (D:Ends),Inv X pins Y H s->t D Y H->wpAny (model X.prog X.w) X.A (exec st X.env) (SP X pins D) X.xe s
def PSs (X:Cx)(st:List Stmt)(t:TS):Prop:=
 ∀(pins:List (Addr×Obj)) (s:Shared) (Y:St) (H:Hp) (D:Ends),Inv X pins Y H s->t D Y H->wpAny (model X.prog X.w) X.A (execs st X.env) (SP X pins D) X.xe s
theorem thn {α:Type}{t:Sem α}{Q Q':α->Shared->Prop}{M:Model}{A:Around}{E:Value->Shared->Prop}{s:Shared}(h:wpAny M A t Q E s)(hQ:∀a s,Q a s->Q' a s):wpAny M A t Q' E s:=wpAny_mono h hQ λ_ _ x=>x
section
variable {X:Cx}
def tVar (i:Nat):TE:=λY H Q=>∃v,Y[i]?=some (some v)/\Q v H
def tC (v:V):TE:=λ_ H Q=>Q v H
theorem pe_var {i:Nat}{x:Str}{pos:Pos}(hN:X.N[i]?=some x)(hv:Vis X.env.scope x)(hd:(x==("__debug__":Str))=false:=by decide)(hcd:(x==("__classdict__":Str))=false:=by decide):PE X (.Name x pos) (tVar i):=by
 intro pins s Y H Q I h
 obtain⟨v,e,h⟩:=h
 obtain⟨m,hn,hl⟩:=I.loc
 obtain⟨u,r,l⟩:=hl i x v hN e hv
 have fin:EP X pins Y Q u s:=⟨v,H,I,r,h⟩
 rcases l with⟨hk,hm⟩ | ⟨hk,c,hc,hcell⟩
 .exact wpAny_Name (wpAny_loadName_local I.ok.kind hk hn hm fin) hd
 .rcases hk with hk |hk
  .exact wpAny_Name (wpAny_loadName_cell I.ok.kind hk hc hcell fin) hd
  .exact wpAny_Name (wpAny_loadName_free I.ok.kind hk hc hcell fin hcd) hd
theorem Xal {i j pos}:PE X (.Constant (.int i) j pos) (tC (.int i)):=λ_ _ _ H _ I h=>wpAny_Constant_int ⟨.int i,H,I.tok _,⟨_,rfl⟩,h⟩
theorem pe_bl {b j pos}:PE X (.Constant (.bool b) j pos) (tC (.bl b)):=λ_ _ _ H _ I h=>Constant_bool ⟨.bl b,H,I,rfl,h⟩
theorem pe_non {j pos}:PE X (.Constant .none j pos) (tC .non):=λ_ _ _ H _ I h=>Constant_none ⟨.non,H,I,rfl,h⟩
theorem pe_str {x j pos}:PE X (.Constant (.str x) j pos) (tC (.str x)):=λ_ _ _ H _ I h=>Calls.Constant_str ⟨.str x,H,I.tok _,⟨_,rfl⟩,h⟩
def Gl (X:Cx)(x:Str):Prop:=X.env.kindOf x=some .globalImplicit
theorem ld_glob {E:Value->Shared->Prop}{pins:List (Addr×Obj)}{s:Shared}{Y:St}{H:Hp}{x:Str}{u:Value}{pos:Pos}{Q:Value->Shared->Prop}(I:Inv X pins Y H s)(hg:Gl X x)(hm:X.mg x=some u)(h:Q u s)
  (hd:(x==("__debug__":Str))=false:=by decide):wpAny (model X.prog X.w) X.A (eval (.Name x pos) X.env) Q E s:=
 Calls.Name_function_global I.ok.kind hg (Calls.loadGlobal_global (by rw[I.ok.glob];exact I.mod.glob.keeps I.bk) hm h) hd
theorem ld_blt {E:Value->Shared->Prop}{pins:List (Addr×Obj)}{s:Shared}{Y:St}{H:Hp}{x:Str}{u:Value}{pos:Pos}{Q:Value->Shared->Prop}(I:Inv X pins Y H s)(hg:Gl X x)(hm:X.mg x=none)(hv:bootBuiltins x=some u)(h:Q u s)
  (hn:x ≠ "__name__":=by decide) (hd:(x==("__debug__":Str))=false:=by decide):wpAny (model X.prog X.w) X.A (eval (.Name x pos) X.env) Q E s:=by
 obtain⟨mb,h1,h2⟩:=I.mod.blt
 exact Calls.Name_function_global I.ok.kind hg (Calls.loadGlobal_builtin (by rw[I.ok.glob];exact I.mod.glob.keeps I.bk) hm (by rw[I.ok.blt];exact h1.keeps I.bk) ((h2 x hn).trans hv) h) hd
theorem pe_glob {x:Str}{v:V}{u:Value}{pos:Pos}(hg:Gl X x)(hm:X.mg x=some u)(r:RelV v u)(hd:(x==("__debug__":Str))=false:=by decide):PE X (.Name x pos) (tC v):=
 λ_ _ _ H _ I h=>ld_glob I hg hm ⟨v,H,I,r,h⟩ hd
theorem pe_bltn {x:Str}{v:V}{u:Value}{pos:Pos}(hg:Gl X x)(hm:X.mg x=none)(hv:bootBuiltins x=some u)(r:RelV v u)(hn:x ≠ "__name__":=by decide)(hd:(x==("__debug__":Str))=false:=by decide):PE X (.Name x pos) (tC v):=
 λ_ _ _ H _ I h=>ld_blt I hg hm hv ⟨v,H,I,r,h⟩ hn hd
variable {a b:Expr}{ta tb:TE}{pos:Pos}
def PC (X:Cx)(op:CmpOp)(a b:Expr)(t:TE):Prop:=
 ∀(pins:List (Addr×Obj)) (s:Shared) (Y:St) (H:Hp) (Q:VK),Inv X pins Y H s->t Y H Q->
  wpAny (model X.prog X.w) X.A (eval a X.env) (λv s₁=>wpAny (model X.prog X.w) X.A (eval b X.env) (λu s₂=>wpAny (model X.prog X.w) X.A (compareOp op v u) (EP X pins Y Q) X.xe s₂) X.xe s₁) X.xe s
theorem nobehind (b:Expr){op:CmpOp}(h:op≠.In)(h2:op≠.NotIn):behindInMarks op b=false:=by
 have e1:(op==CmpOp.In)=false:=by cases op<;>first |rfl |exact absurd rfl h
 have e2:(op==CmpOp.NotIn)=false:=by cases op<;>first |rfl |exact absurd rfl h2
 cases b<;>simp[behindInMarks,e1,e2]
def tB (t:TE):TT:=λY H Q=>t Y H λx H1=>∃c,x = .bl c/\Q c H1
theorem pt_cmp {op:CmpOp}{t:TE}(h:PC X op a b t)(h1:behindInMarks op b=false:=by first |exact nobehind _ (by decide) (by decide) |rfl):PT X (.Compare a [op] [b] pos) (tB t):=by
 intro pins s Y H Q I hw
 refine wpAny_isTrue_Compare1 (thn (h pins s Y H _ I hw) λv s1 h1=>thn h1 λu s2 h2=>thn h2 λc s3 ⟨x,H1,I1,r1,q1⟩=>?_) h1
 obtain⟨d,rfl,q⟩:=q1
 cases r1
 exact wpAny_truthy_bool ⟨H1,I1,q⟩
theorem pt_val {e:Expr}{t:TE}(h:PE X e t)(he:∀whole,isTrue e X.env whole=(do let v <- whole;standAt e.pos;holding [v] (truthy v)):=by intro _;rfl):PT X e (tB t):=by
 intro pins s Y H Q I hw
 refine isTrue_plain (thn (h pins s Y H _ I hw) λv s1 ⟨x,H1,I1,r1,q1⟩=>?_) (he _)
 obtain⟨d,rfl,q⟩:=q1
 cases r1
 exact wpAny_truthy_bool ⟨H1,I1,q⟩
variable {tA tB':TT}{rest:List Expr}
def tAnd (t u:TT):TT:=λY H Q=>t Y H λc H1=>if c=true then u Y H1 Q else Q false H1
def tOr (t u:TT):TT:=λY H Q=>t Y H λc H1=>if c=true then Q true H1 else u Y H1 Q
def tNot (t:TT):TT:=λY H Q=>t Y H λc H1=>Q (!c) H1
theorem pw_and1 (ha:PT X a tA):PW X (.BoolOp .And [a] pos) tA:=by
 intro wh pins s Y H Q I h
 refine isTrue_and (thn (ha pins s Y H Q I h) λc s1 e=>?_)
 cases c with
 |true=>exact isTrue_and_nil e
 |false=>exact e
theorem pw_or1 (ha:PT X a tA):PW X (.BoolOp .Or [a] pos) tA:=by
 intro wh pins s Y H Q I h
 refine isTrue_or (thn (ha pins s Y H Q I h) λc s1 e=>?_)
 cases c with
 |false=>exact isTrue_or_nil e
 |true=>exact e
theorem pw_and (ha:PT X a tA)(hb:PW X (.BoolOp .And (b::rest) pos) tB'):PW X (.BoolOp .And (a::b::rest) pos) (tAnd tA tB'):=by
 intro wh pins s Y H Q I h
 refine isTrue_and (thn (ha pins s Y H _ I h) λc s1 ⟨H1,I1,q1⟩=>?_)
 cases c with
 |true=>exact hb wh pins s1 Y H1 Q I1 q1
 |false=>exact⟨H1,I1,q1⟩
theorem pw_or (ha:PT X a tA)(hb:PW X (.BoolOp .Or (b::rest) pos) tB'):PW X (.BoolOp .Or (a::b::rest) pos) (tOr tA tB'):=by
 intro wh pins s Y H Q I h
 refine isTrue_or (thn (ha pins s Y H _ I h) λc s1 ⟨H1,I1,q1⟩=>?_)
 cases c with
 |true=>exact⟨H1,I1,q1⟩
 |false=>exact hb wh pins s1 Y H1 Q I1 q1
theorem pt_not (ha:PT X a tA):PT X (.UnaryOp .Not a pos) (tNot tA):=by
 intro pins s Y H Q I h
 exact isTrue_not (ha pins s Y H (λc H1=>Q (!c) H1) I h)
def tAndV (ta tb:TE):TE:=λY H Q=>ta Y H λx H1=>∃c,x = .bl c/\if c=true then tb Y H1 Q else Q (.bl false) H1
def tOrV (ta tb:TE):TE:=λY H Q=>ta Y H λx H1=>∃c,x = .bl c/\if c=true then Q (.bl true) H1 else tb Y H1 Q
def tNotV (ta:TE):TE:=λY H Q=>ta Y H λx H1=>∃c,x = .bl c/\Q (.bl (!c)) H1
theorem pe_one {op}{t:TE}(h:PE X a t):PE X (.BoolOp op [a] pos) t:=λpins s Y H Q I hw=>BoolOp_one (h pins s Y H Q I hw)
theorem pe_and (ha:PE X a ta)(hb:PE X (.BoolOp .And (b::rest) pos) tb):PE X (.BoolOp .And (a::b::rest) pos) (tAndV ta tb):=by
 intro pins s Y H Q I h
 refine BoolOp_and (thn (ha pins s Y H _ I h) λv s1 ⟨x,H1,I1,r1,q1⟩=>?_)
 obtain⟨c,rfl,q1⟩:=q1
 cases r1
 refine wpAny_truthy_bool ?_
 cases c with
 |true=>exact hb pins s1 Y H1 Q I1 q1
 |false=>exact⟨.bl false,H1,I1,rfl,q1⟩
theorem pe_or (ha:PE X a ta)(hb:PE X (.BoolOp .Or (b::rest) pos) tb):PE X (.BoolOp .Or (a::b::rest) pos) (tOrV ta tb):=by
 intro pins s Y H Q I h
 refine BoolOp_or (thn (ha pins s Y H _ I h) λv s1 ⟨x,H1,I1,r1,q1⟩=>?_)
 obtain⟨c,rfl,q1⟩:=q1
 cases r1
 refine wpAny_truthy_bool ?_
 cases c with
 |false=>exact hb pins s1 Y H1 Q I1 q1
 |true=>exact⟨.bl true,H1,I1,rfl,q1⟩
theorem pe_not (ha:PE X a ta):PE X (.UnaryOp .Not a pos) (tNotV ta):=by
 intro pins s Y H Q I h
 refine UnaryOp_ (thn (ha pins s Y H _ I h) λv s1 ⟨x,H1,I1,r1,q1⟩=>?_)
 obtain⟨c,rfl,q1⟩:=q1
 cases r1
 exact not_of (wpAny_truthy_bool ⟨.bl (!c),H1,I1,rfl,q1⟩)
def tIf (t:TT)(ta tb:TE):TE:=λY H Q=>t Y H λc H1=>if c=true then ta Y H1 Q else tb Y H1 Q
theorem pe_ifExp {c:Expr}(hc:PT X c tA)(ha:PE X a ta)(hb:PE X b tb):PE X (.IfExp c a b pos) (tIf tA ta tb):=by
 intro pins s Y H Q I h
 refine wpAny_IfExp (thn (hc pins s Y H _ I h) λd s1 ⟨H1,I1,q1⟩=>?_)
 cases d with
 |true=>exact ha pins s1 Y H1 Q I1 q1
 |false=>exact hb pins s1 Y H1 Q I1 q1
end
def SqL (K:Frag)(H:Hp)(a:Addr)(xs:List V):Prop:=
 Rd H a (.lst xs)∨
  ∃(o:Obj) (its:Array Value) (n:Nat),K.lookup a=some o/\o.cls = .type "list"/\o.dict=none/\o.data = .seq its n/\its.size<=sizeLine/\Vals xs its.toList
def SqT (K:Frag)(H:Hp)(a:Addr)(xs:List V):Prop:=
 Rd H a (.tup xs)∨
  ∃(o:Obj) (its:Array Value) (n:Nat),K.lookup a=some o/\o.cls = .type "tuple"/\o.data = .seq its n/\its.size<=sizeLine/\Vals xs its.toList
def absV:Value->Option V
 | .none=>some .non
 | .bool b=>some (.bl b)
 | .int i _=>some (.int i)
 | .str x _=>some (.str x)
 | .bytes b _=>some (.byt b)
 | .float b _=>some (.flt b)
 | .ref a=>some (.ref a)
 | .type n=>some (.ty n)
 |_=>none
theorem RelV.abs {x:V}{u:Value}(r:RelV x u):absV u=some x:=by
 cases x with
 |non=>cases r;rfl
 |bl _=>cases r;rfl
 |int _=>obtain⟨t,rfl⟩:=r;rfl
 |str _=>obtain⟨t,rfl⟩:=r;rfl
 |byt _=>obtain⟨t,rfl⟩:=r;rfl
 |flt _=>obtain⟨t,rfl⟩:=r;rfl
 |ref _=>cases r;rfl
 |ty _=>cases r;rfl
theorem RelV.inj {x y:V}{u:Value}(r:RelV x u)(q:RelV y u):x=y:=Option.some.inj (r.abs.symm.trans q.abs)
theorem Vals.inj:∀{xs ys:List V} {us:List Value},Vals xs us->Vals ys us->xs=ys
 |_,_,_,.nil,.nil=>rfl
 |_,_,_,.cons r t,.cons r' t'=>by rw[r.inj r',Vals.inj t t']
section
variable {X:Cx}{pins:List (Addr×Obj)}{Y:St}{H:Hp}{s:Shared}{a:Addr}{xs ys:List V}
theorem SqL.of {K:Frag}(h:H a=some (.lst xs)):SqL K H a xs:=.inl (.inl h)
theorem Inv.list (I:Inv X pins Y H s)(h:SqL X.K H a xs):∃its:List Value,Vals xs its/\PlainL s.heap a its.toArray/\xs.length<=sizeLine:=by
 rcases h with h | ⟨o,its,n,hk,hc,hd,hs,hz,r⟩
 .obtain ⟨z,its,n,r,e⟩:=h.ok I.hok
  exact⟨its,r,⟨_,n,e,rfl,rfl,rfl⟩,z⟩
 .refine ⟨its.toList,r,⟨o,n,I.kIn a o hk,hc,hd,hs⟩,?_⟩
  have e:=r.length
  simp only[Array.length_toList]at e
  lia
theorem Inv.tuple (I:Inv X pins Y H s)(h:SqT X.K H a xs):∃its:List Value,Vals xs its/\IsTup s.heap a its.toArray/\xs.length<=sizeLine:=by
 rcases h with h | ⟨o,its,n,hk,hc,hs,hz,r⟩
 .obtain ⟨z,its,r,p⟩:=h.ok I.hok
  exact⟨its,r,p,z⟩
 .refine ⟨its.toList,r,⟨o,I.kIn a o hk,hc,n,hs⟩,?_⟩
  have e:=r.length
  simp only[Array.length_toList]at e
  lia
theorem Inv.list_inj (I:Inv X pins Y H s)(h:SqL X.K H a xs)(h':SqL X.K H a ys):xs=ys:=by
 obtain⟨its,r,⟨o,n,e,_,_,d⟩,_⟩:=I.list h
 obtain⟨its',r',⟨o',n',e',_,_,d'⟩,_⟩:=I.list h'
 rw[e]at e';cases e'
 rw[d]at d'
 injection d' with d1 _
 have:its=its':=by simpa using congrArg Array.toList d1
 subst this
 exact r.inj r'
theorem Inv.tuple_inj (I:Inv X pins Y H s)(h:SqT X.K H a xs)(h':SqT X.K H a ys):xs=ys:=by
 obtain⟨its,r,⟨o,e,_,n,d⟩,_⟩:=I.tuple h
 obtain⟨its',r',⟨o',e',_,n',d'⟩,_⟩:=I.tuple h'
 rw[e]at e';cases e'
 rw[d]at d'
 injection d' with d1 _
 have:its=its':=by simpa using congrArg Array.toList d1
 subst this
 exact r.inj r'
end
abbrev Cx.wish (X:Cx)(E:Value->Shared->Prop):Cx:={X with xe:=E}
abbrev Cx.nox (X:Cx):Cx:=X.wish λ_ _=>False
theorem Cx.Ok.wish {X:Cx}(ok:X.Ok)(E:Value->Shared->Prop):(X.wish E).Ok:=
 ⟨ok.mod,ok.kind,ok.glob,ok.blt,ok.above,ok.inj,ok.has,ok.cab,ok.hd,ok.frames,ok.stk,ok.exf,ok.bs,ok.bsz,ok.noex,ok.exfs,ok.funs,ok.frf⟩
theorem Cx.Ok.unwish {X:Cx}{E:Value->Shared->Prop}(ok:(X.wish E).Ok):X.Ok:=
 ⟨ok.mod,ok.kind,ok.glob,ok.blt,ok.above,ok.inj,ok.has,ok.cab,ok.hd,ok.frames,ok.stk,ok.exf,ok.bs,ok.bsz,ok.noex,ok.exfs,ok.funs,ok.frf⟩
section
variable {X:Cx}{pins:List (Addr×Obj)}{Y:St}{H:Hp}{s:Shared}{E:Value->Shared->Prop}
theorem Inv.wish (I:Inv X pins Y H s)(E:Value->Shared->Prop):Inv (X.wish E) pins Y H s:=⟨I.ok.wish E,I.os,I.bare,I.base,I.loc,I.cell,I.free,I.freeC,I.pin,I.hok,I.len⟩
theorem Inv.unwish (I:Inv (X.wish E) pins Y H s):Inv X pins Y H s:=⟨I.ok.unwish,I.os,I.bare,I.base,I.loc,I.cell,I.free,I.freeC,I.pin,I.hok,I.len⟩
theorem SP.unwish {D:Ends}{f:Flow}{s':Shared}(h:SP (X.wish E) pins D f s'):SP X pins D f s':=by
 cases f with
 |next=>obtain⟨Y',H',I,q⟩:=h;exact⟨Y',H',I.unwish,q⟩
 |brk=>obtain⟨Y',H',I,q⟩:=h;exact⟨Y',H',I.unwish,q⟩
 |cont=>obtain⟨Y',H',I,q⟩:=h;exact⟨Y',H',I.unwish,q⟩
 |ret u=>obtain⟨v,Y',H',I,r,q⟩:=h;exact⟨v,Y',H',I.unwish,r,q⟩
theorem PSs.nox {st:List Stmt}{t:TS}(h:PSs X.nox st t):PSs X st t:=λpins s Y H D I hw=>
 wpAny_mono (h pins s Y H D (I.wish _) hw) (λ_ _ q=>q.unwish) λ_ _ z=>False.elim z
end
section
variable {X:Cx}{st:Stmt}{rest:List Stmt}{t u:TS}{e:Expr}{te:TE}{pos:Pos}
def tNext:TS:=λD Y H=>D.nx Y H
def tSeq (t u:TS):TS:=λD Y H=>t {D with nx:=u D} Y H
theorem pss_nil:PSs X [] tNext:=λ_ _ Y H _ I h=>wpAny_execs_nil ⟨Y,H,I,h⟩
theorem Xah (h1:PS X st t)(h2:PSs X rest u):PSs X (st::rest) (tSeq t u):=by
 intro pins s Y H D I h
 refine wpAny_execs_cons (thn (h1 pins s Y H {D with nx:=u D} I h) λf s1 q=>?_)
 cases f with
 |next=>
  obtain⟨Y',H',I',q⟩:=q
  exact h2 pins s1 Y' H' D I' q
 |ret v=>exact q
 |brk=>exact q
 |cont=>exact q
theorem Xai (h1:PS X st t):PSs X [st] t:=by
 intro pins s Y H D I h
 refine wpAny_execs_cons (thn (h1 pins s Y H D I h) λf s1 q=>?_)
 cases f with
 |next=>exact wpAny_execs_nil q
 |ret v=>exact q
 |brk=>exact q
 |cont=>exact q
def tBreak:TS:=λD Y H=>D.bk Y H
theorem ps_break:PS X (.Break pos) tBreak:=λ_ _ Y H _ I h=>wpAny_Break ⟨Y,H,I,h⟩
theorem Inv.quiet {pins:List (Addr×Obj)}{Y:St}{H:Hp}{s:Shared}(I:Inv X pins Y H s):interactive X.env=false:=by simp[interactive,I.ok.kind]
def tDrop (te:TE):TS:=λD Y H=>te Y H λ_ H1=>D.nx Y H1
theorem ps_expr (he:PE X e te)(hs:swapsWith e none pos.line X.env=pure false:=by rfl):PS X (.Expr e pos) (tDrop te):=by
 intro pins s Y H D I h
 exact wpAny_Expr_any (thn (he pins s Y H _ I h) λv s1 ⟨x,H1,I1,r1,q1⟩=>⟨Y,H1,I1,q1⟩) I.quiet hs
def tRet (te:TE):TS:=λD Y H=>te Y H D.rt
theorem Xas (he:PE X e te):PS X (.Return (some e) pos) (tRet te):=by
 intro pins s Y H D I h
 exact wpAny_Return_some (thn (he pins s Y H _ I h) λv s1 ⟨x,H1,I1,r1,q1⟩=>⟨x,Y,H1,I1,r1,q1⟩)
def tIfS (c:TT)(t u:TS):TS:=λD Y H=>c Y H λb H1=>if b=true then t D Y H1 else u D Y H1
theorem ps_if {c:Expr}{a b:List Stmt}{tc:TT}(hc:PT X c tc)(ha:PSs X a t)(hb:PSs X b u):PS X (.If c a b pos) (tIfS tc t u):=by
 intro pins s Y H D I h
 refine wpAny_If (thn (hc pins s Y H _ I h) λd s1 ⟨H1,I1,q1⟩=>?_)
 cases d with
 |true=>exact ha pins s1 Y H1 D I1 q1
 |false=>exact hb pins s1 Y H1 D I1 q1
def tNever:TS:=λ_ _ _=>False
theorem ps_never:PS X st tNever:=λ_ _ _ _ _ _ h=>h.elim
end
abbrev TG:=V->St->Hp->(St->Hp->Prop)->Prop
abbrev TGs:=List V->St->Hp->(St->Hp->Prop)->Prop
def PG (X:Cx)(target:Expr)(t:TG):Prop:=
 ∀(pins:List (Addr×Obj)) (s:Shared) (Y:St) (H:Hp) (v:V) (u:Value) (Q:St->Hp->Prop),Inv X pins Y H s->RelV v u->t v Y H Q->
  wpAny (model X.prog X.w) X.A (assign target X.env u) (λ_ s'=>∃Y' H',Inv X pins Y' H' s'/\Q Y' H') X.xe s
def PGs (X:Cx)(ts:List Expr)(t:TGs):Prop:=
 ∀(pins:List (Addr×Obj)) (s:Shared) (Y:St) (H:Hp) (vs:List V) (us:List Value) (Q:St->Hp->Prop),Inv X pins Y H s->Vals vs us->t vs Y H Q->
  wpAny (model X.prog X.w) X.A (assignInOrder ((assignEach ts X.env).map (·.2)) us) (λ_ s'=>∃Y' H',Inv X pins Y' H' s'/\Q Y' H') X.xe s
abbrev TSet:=V->V->V->Hp->(Hp->Prop)->Prop
def PSet (X:Cx)(t:TSet):Prop:=
 ∀(pins:List (Addr×Obj)) (s:Shared) (Y:St) (H:Hp) (o i v:V) (ov iv u:Value) (Q:Hp->Prop),Inv X pins Y H s->RelV o ov->RelV i iv->RelV v u->t o i v H Q->
  wpAny (model X.prog X.w) X.A (setItem ov iv u) (λ_ s'=>∃H',Inv X pins Y H' s'/\Q H') X.xe s
abbrev TIp:=V->V->Hp->VK->Prop
def PIp (X:Cx)(op:Operator)(t:TIp):Prop:=
 ∀(pins:List (Addr×Obj)) (s:Shared) (Y:St) (H:Hp) (x y:V) (v u:Value) (Q:VK),Inv X pins Y H s->RelV x v->RelV y u->t x y H Q->
  wpAny (model X.prog X.w) X.A (inplaceOp op v u) (EP X pins Y Q) X.xe s
section
variable {X:Cx}{pos:Pos}
def gName (i:Nat):TG:=λv Y H Q=>Q (Y.set i (some v)) H
theorem Xa6 {i:Nat}{x:Str}(hN:X.N.Nodup)(hi:X.N[i]?=some x)(hx:Loc X.env.scope x)(hf:X.fn x=true∨X.env.scope.names.lookup x=some .local:=by first |exact .inl rfl |exact .inr rfl |assumption):PG X (.Name x pos) (gName i):=by
 intro pins s Y H v u Q I r h
 exact wpAny_assign_Name (store_ok I hN hi hx r (λs' I'=>⟨_,H,I',h⟩) hf)
def gNil:TGs:=λvs Y H Q=>vs=[]/\Q Y H
def gCons (t:TG)(u:TGs):TGs:=λvs Y H Q=>∃v r,vs=v::r/\t v Y H λY' H'=>u r Y' H' Q
theorem pgs_nil:PGs X [] gNil:=by
 intro pins s Y H vs us Q I r h
 obtain⟨e,h⟩:=h
 subst e
 exact assignInOrder_nil ⟨Y,H,I,h⟩
theorem pgs_cons {e:Expr}{es:List Expr}{t:TG}{u:TGs}(h1:PG X e t)(h2:PGs X es u)
  (hs:(assignEach (e::es) X.env).map (·.2)=assign e X.env::(assignEach es X.env).map (·.2):=by rfl):PGs X (e::es) (gCons t u):=by
 intro pins s Y H vs us Q I r h
 obtain⟨v,vr,e1,h⟩:=h
 subst e1
 cases r with
 |cons r rr=>
  rw[hs]
  refine assignInOrder_cons (thn (h1 pins s Y H _ _ _ I r h) λ_ s1 ⟨Y1,H1,I1,q1⟩=>?_)
  exact h2 pins s1 Y1 H1 _ _ Q I1 rr q1
def gTup (K:Frag)(n:Nat)(t:TGs):TG:=λv Y H Q=>∃a xs,v = .ref a/\SqT K H a xs/\xs.length=n/\t xs Y H Q
theorem pg_tup {es:List Expr}{k:Nat}{t:TGs}{n:Nat}(hc:X.calm=true)(h:PGs X es t)
  (hn:(assignEach es X.env).length=n:=by rfl) (hst:(assignEach es X.env).findIdx? (·.1)=none:=by rfl):PG X (.Tuple es k pos) (gTup X.K n t):=by
 intro pins s Y H v u Q I r hw
 obtain⟨a,xs,e1,hq,hl,hw⟩:=hw
 subst e1
 cases r
 obtain⟨its,rv,ht,hz⟩:=I.tuple hq
 refine assign_Tuple_tuple (I.ok.hd hc) ht (by simp[hn,<- hl,rv.length]) hst λh' hx=>?_
 have I1:Inv X pins Y H {s with heap:=h'}:=I.kept (t':=s.toks) λb o e=>hx b o (Nat.ne_of_lt (Heap.lt_size e)) e
 exact h pins _ Y H xs _ Q I1 rv hw
def gSub (to ti:TE)(t:TSet):TG:=λv Y H Q=>to Y H λo H1=>ti Y H1 λi H2=>t o i v H2 λH3=>Q Y H3
theorem pg_sub {o i:Expr}{to ti:TE}{t:TSet}(ho:PE X o to)(hi:PE X i ti)(hs:PSet X t)
  (ha:∀v,assign (.Subscript o i pos) X.env v=(do
   let ov <- holding [v] (eval o X.env)
   let iv <- holding [v,ov] (eval i X.env)
   standAt pos
   holding [v,ov,iv] (setItem ov iv v)
   release [v,ov,iv] []):=by intro _;rfl):PG X (.Subscript o i pos) (gSub to ti t):=by
 intro pins s Y H v u Q I r h
 refine wpAny_bind (wpAny_holding (thn (ho pins s Y H _ I h) λov s1 ⟨x,H1,I1,r1,q1⟩=>?_))
 refine wpAny_bind (wpAny_holding (thn (hi pins s1 Y H1 _ I1 q1) λiv s2 ⟨y,H2,I2,r2,q2⟩=>?_))
 refine wpAny_bind (wpAny_standAt (wpAny_bind (wpAny_holding (thn (hs pins s2 Y H2 x y v ov iv u _ I2 r1 r2 r q2) λ_ s3 ⟨H3,I3,q3⟩=>?_))))
 exact wpAny_release ⟨Y,H3,I3,q3⟩
def tAsg (te:TE)(g:TG):TS:=λD Y H=>te Y H λx H1=>g x Y H1 D.nx
theorem ps_asg {tg e:Expr}{te:TE}{g:TG}(he:PE X e te)(hg:PG X tg g)(hs:swapsWithSole [tg] e pos.line X.env=pure false:=by rfl)(hw:swappedStores [tg] e X.env=pure none:=by rfl)
  (h1:(assignEach [tg] X.env).map (·.2)=[assign tg X.env]:=by rfl):PS X (.Assign [tg] e pos) (tAsg te g):=by
 intro pins s Y H D I h
 refine wpAny_Assign_stores (thn (he pins s Y H _ I h) λv s1 ⟨x,H1,I1,r1,q1⟩=>?_) hs hw
 rw[h1]
 exact thn (hg pins s1 Y H1 x v _ I1 r1 q1) λ_ s2 q=>q
theorem ps_set {i:Nat}{x:Str}{e:Expr}{te:TE}{pos':Pos}(hN:X.N.Nodup)(hi:X.N[i]?=some x)(hx:Loc X.env.scope x)(he:PE X e te)(hs:swapsWith e (some (.Name x pos')) pos.line X.env=pure false:=by rfl)(hf:X.fn x=true∨X.env.scope.names.lookup x=some .local:=by first |exact .inl rfl |exact .inr rfl |assumption):
  PS X (.Assign [.Name x pos'] e pos) (tAsg te (gName i)):=by
 intro pins s Y H D I h
 refine wpAny_Assign_Name (thn (he pins s Y H _ I h) λv s1 ⟨y,H1,I1,r1,q1⟩=>?_) hs
 exact store_ok I1 hN hi hx r1 (λs2 I2=>⟨_,H1,I2,q1⟩) hf
def tAug (i:Nat)(te:TE)(ti:TIp):TS:=λD Y H=>∃x,Y[i]?=some (some x)/\te Y H λy H1=>ti x y H1 λz H2=>D.nx (Y.set i (some z)) H2
theorem ps_aug {i:Nat}{x:Str}{e:Expr}{te:TE}{op:Operator}{ti:TIp}{pos':Pos}(hN:X.N.Nodup)(hi:X.N[i]?=some x)(hx:Loc X.env.scope x)(he:PE X e te)(ho:PIp X op ti)(hf:X.fn x=true∨X.env.scope.names.lookup x=some .local:=by first |exact .inl rfl |exact .inr rfl |assumption):
  PS X (.AugAssign (.Name x pos') op e pos) (tAug i te ti):=by
 intro pins s Y H D I h
 obtain⟨v,e1,h⟩:=h
 obtain⟨m,hn,hl⟩:=I.loc
 have vis:Vis X.env.scope x:=by rcases hx with k |k;exact .inl k;exact .inr (.inl k)
 obtain⟨u,r,l⟩:=hl i x v hi e1 vis
 refine wpAny_AugAssign_Name ?_
 have go:wpAny (model X.prog X.w) X.A (eval e X.env) (λw s₂=>wpAny (model X.prog X.w) X.A (inplaceOp op u w) (λr s₃=>wpAny (model X.prog X.w) X.A (storeName X.env x r) (λ_=>SP X pins D .next) X.xe s₃) X.xe s₂) X.xe s:=by
  refine thn (he pins s Y H _ I h) λw s1 ⟨y,H1,I1,r1,q1⟩=>?_
  refine thn (ho pins s1 Y H1 v y u w _ I1 r r1 q1) λz s2 ⟨zv,H2,I2,r2,q2⟩=>?_
  exact store_ok I2 hN hi hx r2 (λs3 I3=>⟨_,H2,I3,q2⟩) hf
 rcases l with⟨hk,hm⟩ | ⟨hk,c,hc,hcell⟩
 .exact wpAny_loadName_local I.ok.kind hk hn hm go
 .rcases hk with hk |hk
  .exact wpAny_loadName_cell I.ok.kind hk hc hcell go
  .rcases hx with k |k
   .have:X.env.scope.names.lookup x=some .free:=hk
    rw[k]at this;cases this
   .have:X.env.scope.names.lookup x=some .free:=hk
    rw[k]at this;cases this
def tAugS (to ti te:TE)(tget:V->V->Hp->VK->Prop)(tip:TIp)(tset:TSet):TS:=λD Y H=>to Y H λo H1=>ti Y H1 λi H2=>tget o i H2 λx H3=>te Y H3 λy H4=>tip x y H4 λz H5=>tset o i z H5 λH6=>D.nx Y H6
def PGet (X:Cx)(t:V->V->Hp->VK->Prop):Prop:=
 ∀(pins:List (Addr×Obj)) (s:Shared) (Y:St) (H:Hp) (o i:V) (ov iv:Value) (Q:VK),Inv X pins Y H s->RelV o ov->RelV i iv->t o i H Q->
  wpAny (model X.prog X.w) X.A (getItem ov iv) (EP X pins Y Q) X.xe s
theorem ps_augS {o i e:Expr}{to ti te:TE}{tget:V->V->Hp->VK->Prop}{tip:TIp}{tset:TSet}{op:Operator}{tpos:Pos}(ho:PE X o to)(hi:PE X i ti)(hg:PGet X tget)(he:PE X e te)(hp:PIp X op tip)(hs:PSet X tset)
  (ha:∀ov iv new,augStore i ov iv new=(do holding [new,ov,iv] (setItem ov iv new);release [new,ov,iv] [];pure .next):=by intros;rfl):PS X (.AugAssign (.Subscript o i tpos) op e pos) (tAugS to ti te tget tip tset):=by
 intro pins s Y H D I h
 refine wpAny_AugAssign_SubscriptAny (thn (ho pins s Y H _ I h) λov s1 ⟨x1,H1,I1,r1,q1⟩=>?_) ha
 refine thn (hi pins s1 Y H1 _ I1 q1) λiv s2 ⟨x2,H2,I2,r2,q2⟩=>?_
 refine thn (hg pins s2 Y H2 x1 x2 ov iv _ I2 r1 r2 q2) λold s3 ⟨x3,H3,I3,r3,q3⟩=>?_
 refine thn (he pins s3 Y H3 _ I3 q3) λv s4 ⟨x4,H4,I4,r4,q4⟩=>?_
 refine thn (hp pins s4 Y H4 x3 x4 old v _ I4 r3 r4 q4) λnew s5 ⟨x5,H5,I5,r5,q5⟩=>?_
 exact thn (hs pins s5 Y H5 x1 x2 x5 ov iv new _ I5 r1 r2 r5 q5) λ_ s6 ⟨H6,I6,q6⟩=>⟨Y,H6,I6,q6⟩
def ipI (f:Int->Int->Int):TIp:=λx y H Q=>∃i j,x = .int i/\y = .int j/\Q (.int (f i j)) H
theorem ip_add:PIp X .Add (ipI λi j=>i+j):=by
 intro pins s Y H x y v u Q I r1 r2 h
 obtain⟨i,j,e1,e2,q⟩:=h
 subst e1;subst e2
 obtain⟨t,rfl⟩:=r1
 obtain⟨t',rfl⟩:=r2
 exact iadd_int ⟨.int _,H,I.tok _,⟨_,rfl⟩,q⟩
end
section
variable {X:Cx}{pos:Pos}
def tWhile (c:TT)(tb:TS):TS:=λD Y H=>∃W:Nat->St->Hp->Prop,(∃m,W m Y H)/\∀m Y H,W m Y H->
 c Y H λb H1=>if b=true then ∃N:St->Hp->Prop,(∀Y' H',N Y' H'->∃m',m'<m/\W m' Y' H')/\tb {D with nx:=N,ct:=N,bk:=D.nx} Y H1 else D.nx Y H1
theorem ps_while {c:Expr}{body:List Stmt}{tc:TT}{tb:TS}(hp:PassesOwn (model X.prog X.w) X.A X.env X.xe)(hc:PT X c tc)(hb:PSs X body tb):PS X (.While c body [] pos) (tWhile tc tb):=by
 intro pins s Y H D I h
 obtain⟨W,⟨m0,w0⟩,turn⟩:=h
 refine wpAny_While (codeAny_whileLoop (λn s'=>∃Y' H',Inv X pins Y' H' s'/\W n Y' H') ?_ m0 ⟨Y,H,I,w0⟩)
 rintro n s1 ⟨Y1,H1,I1,w1⟩
 refine wpAny_passesOwn hp (thn (hc pins s1 Y1 H1 _ I1 (turn n Y1 H1 w1)) λb s2 ⟨H2,I2,q2⟩=>?_)
 cases b with
 |true=>
  obtain⟨N,hN,q2⟩:=q2
  refine wpAny_passesOwn hp (thn (hb pins s2 Y1 H2 _ I2 q2) λf s3 q3=>?_)
  cases f with
  |next=>
   obtain⟨Y3,H3,I3,n3⟩:=q3
   obtain⟨m',hm,w3⟩:=hN Y3 H3 n3
   exact⟨m',hm,Y3,H3,I3,w3⟩
  |cont=>
   obtain⟨Y3,H3,I3,n3⟩:=q3
   obtain⟨m',hm,w3⟩:=hN Y3 H3 n3
   exact⟨m',hm,Y3,H3,I3,w3⟩
  |brk=>exact q3
  |ret v=>exact q3
 |false=>
  exact wpAny_execs_nil ⟨Y1,H2,I2,q2⟩
end
structure It where
 go:Nat->Hp->Prop
 yld:Nat->Hp->V->Hp->Prop
 stop:Nat->Hp->Prop
def FpOk (X:Cx)(pins:List (Addr×Obj))(H:Hp)(b:Addr):Prop:=
 H b=none/\b≠X.env.locals/\b∉X.fs/\(b∈X.ex∨X.s₀.heap.objs.size<=b)/\(∀x c,X.env.cells.lookup x=some c->c≠b)/\∀p∈X.pn++pins,p.1≠b
theorem Inv.fpOk {X:Cx}{pins:List (Addr×Obj)}{Y:St}{H H':Hp}{s:Shared}{b:Addr}(I:Inv X pins Y H s)(hb:s.heap.objs.size<=b)(hn:H' b=none):FpOk X pins H' b:=by
 refine⟨hn,Nat.ne_of_gt (Nat.lt_of_lt_of_le I.lt hb),I.nofs hb,.inr (Nat.le_trans I.sz hb),λx c e z=>?_,λp hp z=>?_⟩
 .obtain ⟨v,q⟩:=I.cell x c e
  exact absurd (Nat.lt_of_lt_of_le q.lt (by rw[z];exact hb)) (Nat.lt_irrefl _)
 .exact absurd (Nat.lt_of_lt_of_le (Heap.lt_size (I.pin p hp).1) (by rw[z];exact hb)) (Nat.lt_irrefl _)
structure Turn (P:Program) (w:World) (K:Frag) (tg:Expr) (J:It) (fp:List Addr) (it:Addr) (tn:Nat->Heap->Prop):Prop where
 mem:it∈fp
 obj:∀i h,tn i h->∀b∈fp,∃o,h.get? b=some o/\∀v,o.data≠.cell v
 keep:∀i h h',tn i h->(∀b∈fp,∀o,h.get? b=some o->h'.get? b=some o)->tn i h'
 item:∀(X:Cx),X.prog=P->X.w=w->X.K=K->X.calm=true->∀(i:Nat) (pins:List (Addr×Obj)) (s:Shared) (Y:St) (H:Hp) (E:Value->Shared->Prop),Inv X pins Y H s->(∀b∈fp,FpOk X pins H b)->tn i s.heap->J.go i H->
  wpAny (model P w) X.A (pyNext (.ref it)) (λr s1=>∃u,r=some u/\
   wpAny (model P w) X.A (letOwnedTupleGo tg (.ref it) u) (λ_ s2=>∃x H',Inv X pins Y H' s2/\RelV x u/\J.yld i H x H'/\tn (i+1) s2.heap/\∀b∈fp,H' b=none) E s1) E s
 done:∀(X:Cx),X.prog=P->X.w=w->X.K=K->X.calm=true->∀(i:Nat) (pins:List (Addr×Obj)) (s:Shared) (Y:St) (H:Hp) (E:Value->Shared->Prop),Inv X pins Y H s->(∀b∈fp,FpOk X pins H b)->tn i s.heap->J.stop i H->
  wpAny (model P w) X.A (pyNext (.ref it)) (λr s1=>r=none/\Inv X pins Y H s1) E s
 self:∀(A:Around) (i:Nat) (s:Shared) (Q:Value->Shared->Prop) (E:Value->Shared->Prop),tn i s.heap->Q (.ref it) s->wpAny (model P w) A (pyIter (.ref it)) Q E s
abbrev TI:=St->Hp->(It->Hp->Prop)->Prop
def PIE (X:Cx)(pins:List (Addr×Obj))(Y:St)(tg:Expr)(R:It->Hp->Prop)(itv:Value)(s2:Shared):Prop:=
 ∃(it:Addr) (fp:List Addr) (tn:Nat->Heap->Prop) (J:It) (H':Hp),itv = .ref it/\Inv X pins Y H' s2/\Turn X.prog X.w X.K tg J fp it tn/\tn 0 s2.heap/\(∀b∈fp,FpOk X pins H' b)/\R J H'
def PI (X:Cx)(tg iter:Expr)(wi:TI):Prop:=
 ∀(pins:List (Addr×Obj)) (s:Shared) (Y:St) (H:Hp) (R:It->Hp->Prop),Inv X pins Y H s->wi Y H R->
  wpAny (model X.prog X.w) X.A (eval iter X.env) (λv s1=>wpAny (model X.prog X.w) X.A (pyIter v) (PIE X pins Y tg R) X.xe s1) X.xe s
theorem go_of {M:Model}{A:Around}{E:Value->Shared->Prop}{s:Shared}{tg:Expr}{it:Addr}{u:Value}{o:Obj}{n:String}{vs:Array Value}{Q:Unit->Shared->Prop}(ho:s.heap.get? it=some o)(hc:o.cls = .type n)(hd:o.data = .fields vs)
  (hn:["enumerate","zip","dict_itemiterator","dict_reverseitemiterator","odict_iterator","itertools.zip_longest","itertools.pairwise"].contains n=false) (hQ:Q () s):wpAny M A (letOwnedTupleGo tg (.ref it) u) Q E s:=by
 cases tg <;> first
  |exact wpAny_pure hQ
  | (cases u<;>first
    |exact wpAny_pure hQ
    | (refine wpAny_bind (wpAny_load ho ?_)
       rw[hc,hd]
       show wpAny M A (if (["enumerate","zip","dict_itemiterator","dict_reverseitemiterator","odict_iterator","itertools.zip_longest","itertools.pairwise"].contains n && vs[0]?==some (rawInt _))=true then _ else _) Q E s
       rw[if_neg (by intro h;rw[hn]at h;cases h)]
       exact wpAny_pure hQ))
def Itl (K:Frag)(a:Addr):It:=
 ⟨λi H=>∃xs x,SqL K H a xs/\xs[i]?=some x,λi H x H'=>H'=H/\∀xs,SqL K H a xs->xs[i]?=some x,λi H=>∃xs,SqL K H a xs/\xs.length<=i⟩
def Itt (K:Frag)(a:Addr):It:=
 ⟨λi H=>∃xs x,SqT K H a xs/\xs[i]?=some x,λi H x H'=>H'=H/\∀xs,SqT K H a xs->xs[i]?=some x,λi H=>∃xs,SqT K H a xs/\xs.length<=i⟩
def Itr (lo:Int)(n:Nat):It:=⟨λi _=>i<n,λi H x H'=>H'=H/\x = .int (lo+i),λi _=>n<=i⟩
theorem turn_list {P:Program}{w:World}{K:Frag}{tg:Expr}(a it:Addr):Turn P w K tg (Itl K a) [it] it (λi h=>h.IsListIter it a i) where
 mem:=by simp
 obj:=λi h st b hb=>by
  have e:b=it:=by simpa using hb
  subst e
  obtain⟨o,e,c,d⟩:=st
  exact⟨o,e,λv z=>by rw[d]at z;cases z⟩
 keep:=λi h h' st k=>st.at λo e=>k it (by simp) o e
 item:=by
  kj_on
  obtain⟨xs,x,hq,hx⟩:=hg
  obtain⟨its,rv,p,hz⟩:=I.list hq
  obtain⟨u,hu,ru⟩:=rv.get hx
  obtain⟨f0,f1,f2,f3,f4,f5⟩:=hf it (by simp)
  refine wpAny_pyNext_list_item st p.isList (by simpa using hu) λh' st' sb=>?_
  have I1:Inv X pins Y H {s with heap:=h'}:=I.turned (t':=s.toks) (λb o hb e=>(sb.2 b hb).trans e) f0 f1 f3 f4 f5
  obtain⟨o,e,c,d⟩:=id st'
  exact⟨u,rfl,go_of (s:={s with heap:=h'}) e c d rfl ⟨x,H,I1,ru,⟨rfl,λys hy=>by rw[I.list_inj hy hq];exact hx⟩,st',λb hb=>(hf b hb).1⟩⟩
 done:=by
  kj_on
  obtain⟨xs,hq,hx⟩:=hg
  obtain⟨its,rv,p,hz⟩:=I.list hq
  obtain⟨f0,f1,f2,f3,f4,f5⟩:=hf it (by simp)
  have hl:=rv.length
  exact wpAny_pyNext_list_end (I.ok.hd hc) st p.isList (by simp;lia) λh' eb=>⟨rfl,I.turned (t':=s.toks) (λb o hb e=>eb b o hb e) f0 f1 f3 f4 f5⟩
 self:=λ_ _ _ _ _ st h=>wpAny_pyIter_listiter st h
theorem turn_tuple {P:Program}{w:World}{K:Frag}{tg:Expr}(a it:Addr):Turn P w K tg (Itt K a) [it] it (λi h=>h.IsTupleIter it a i) where
 mem:=by simp
 obj:=λi h st b hb=>by
  have e:b=it:=by simpa using hb
  subst e
  obtain⟨o,e,c,d⟩:=st
  exact⟨o,e,λv z=>by rw[d]at z;cases z⟩
 keep:=λi h h' st k=>st.at λo e=>k it (by simp) o e
 item:=by
  kj_on
  obtain⟨xs,x,hq,hx⟩:=hg
  obtain⟨its,rv,p,hz⟩:=I.tuple hq
  obtain⟨u,hu,ru⟩:=rv.get hx
  obtain⟨f0,f1,f2,f3,f4,f5⟩:=hf it (by simp)
  refine wpAny_pyNext_tuple_item st (show s.heap.IsTuple a its.toArray from p) (by simpa using hu) λh' st' sb=>?_
  have I1:Inv X pins Y H {s with heap:=h'}:=I.turned (t':=s.toks) (λb o hb e=>(sb.2 b hb).trans e) f0 f1 f3 f4 f5
  obtain⟨o,e,c,d⟩:=id st'
  exact⟨u,rfl,go_of (s:={s with heap:=h'}) e c d rfl ⟨x,H,I1,ru,⟨rfl,λys hy=>by rw[I.tuple_inj hy hq];exact hx⟩,st',λb hb=>(hf b hb).1⟩⟩
 done:=by
  kj_on
  obtain⟨xs,hq,hx⟩:=hg
  obtain⟨its,rv,p,hz⟩:=I.tuple hq
  obtain⟨f0,f1,f2,f3,f4,f5⟩:=hf it (by simp)
  have hl:=rv.length
  exact wpAny_pyNext_tuple_end (I.ok.hd hc) st (show s.heap.IsTuple a its.toArray from p) (by simp;lia) λh' eb=>⟨rfl,I.turned (t':=s.toks) (λb o hb e=>eb b o hb e) f0 f1 f3 f4 f5⟩
 self:=λ_ _ _ _ _ st h=>wpAny_pyIter_tupleiter st h
theorem turn_range {P:Program}{w:World}{K:Frag}{tg:Expr}(it:Addr)(lo:Int)(n:Nat):Turn P w K tg (Itr lo n) [it] it (λi h=>IsRangeIter h it (lo+(i:Nat)*1) ((n:Int)-(i:Nat)) 1) where
 mem:=by simp
 obj := λi h st b hb=>by
  have e:b=it:=by simpa using hb
  subst e
  exact⟨_,st,λv z=>by
   have z':Data.fields _=Data.cell v:=z
   cases z'⟩
 keep:=λi h h' st k=>k it (by simp) _ st
 item:=by
  kj_on
  obtain⟨f0,f1,f2,f3,f4,f5⟩:=hf it (by simp)
  have W:=Walks.range (prog:=X.prog) (w:=X.w) (I.ok.hd hc) it lo 1 n
  refine W.item i s _ _ hg st λv h' tk hv st' kk=>?_
  obtain⟨t,rfl⟩:=hv
  have I1:Inv X pins Y H {s with heap:=h',toks:=tk}:=I.turned (λb o hb e=>kk b o (by simpa using hb) e) f0 f1 f3 f4 f5
  refine⟨_,rfl,go_of (s:={s with heap:=h',toks:=tk}) (n := "range_iterator") st' rfl rfl rfl ⟨.int (lo+i),H,I1,⟨t,?_⟩,⟨rfl,rfl⟩,st',λb hb=>(hf b hb).1⟩⟩
  rw[Int.mul_one]
 done:=by
  intro X hP hw hK hc i pins s Y H E I hf st hg
  obtain⟨f0,f1,f2,f3,f4,f5⟩:=hf it (by simp)
  exact wpAny_pyNext_range_end (I.ok.hd hc) st (by have:n<=i:=hg;lia) λh' eb=>⟨rfl,I.turned (t':=s.toks) (λb o hb e=>eb b o hb e) f0 f1 f3 f4 f5⟩
 self:=λ_ _ _ _ _ st h=>wpAny_pyIter_rangeiter st h
section
variable {X:Cx}{tg:Expr}
def iList (K:Frag)(tl:TE):TI:=λY H R=>tl Y H λx H1=>∃a,x = .ref a/\(∃xs,SqL K H1 a xs)/\R (Itl K a) H1
def iTup (K:Frag)(tl:TE):TI:=λY H R=>tl Y H λx H1=>∃a,x = .ref a/\(∃xs,SqT K H1 a xs)/\R (Itt K a) H1
theorem pi_list {l:Expr}{tl:TE}(hl:PE X l tl):PI X tg l (iList X.K tl):=by
 intro pins s Y H R I h
 refine thn (hl pins s Y H _ I h) λv s1 ⟨x,H1,I1,r1,q1⟩=>?_
 obtain⟨a,e,⟨xs,hq⟩,q⟩:=q1
 subst e
 cases r1
 obtain⟨its,rv,p,hz⟩:=I1.list hq
 refine wpAny_pyIter_list p.isList ?_
 refine⟨s1.heap.objs.size,[s1.heap.objs.size],_,_,H1,rfl,I1.kept (t':=s1.toks) λb o e=>Heap.get?_push_of_some _ e,turn_list a _,⟨_,Heap.get?_push_size _ rfl,rfl,rfl⟩,λb hb=>?_,q⟩
 have e:b=s1.heap.objs.size:=by simpa using hb
 subst e
 exact I1.fpOk (Nat.le_refl _) (I1.hok.fresh (Nat.le_refl _))
theorem pi_tup {l:Expr}{tl:TE}(hl:PE X l tl):PI X tg l (iTup X.K tl):=by
 intro pins s Y H R I h
 refine thn (hl pins s Y H _ I h) λv s1 ⟨x,H1,I1,r1,q1⟩=>?_
 obtain⟨a,e,⟨xs,hq⟩,q⟩:=q1
 subst e
 cases r1
 obtain⟨its,rv,p,hz⟩:=I1.tuple hq
 refine wpAny_pyIter_tuple (show s1.heap.IsTuple a its.toArray from p) ?_
 refine⟨s1.heap.objs.size,[s1.heap.objs.size],_,_,H1,rfl,I1.kept (t':=s1.toks) λb o e=>Heap.get?_push_of_some _ e,turn_tuple a _,⟨_,Heap.get?_push_size _ rfl,rfl,rfl⟩,λb hb=>?_,q⟩
 have e:b=s1.heap.objs.size:=by simpa using hb
 subst e
 exact I1.fpOk (Nat.le_refl _) (I1.hok.fresh (Nat.le_refl _))
theorem range_it {pins:List (Addr×Obj)}{Y:St}{H:Hp}{s:Shared}{R:It->Hp->Prop}{E:Value->Shared->Prop}{lo hi:Int}{t u v:Tok}{tk:Nat}(I:Inv X pins Y H s)(h1 : -(2^62)<=lo)(h2:lo<2^62)(h3 : -(2^62)<=hi)(h4:hi<2^62)
  (q:R (Itr lo (hi-lo).toNat) H):wpAny (model X.prog X.w) X.A (pyIter (.ref s.heap.objs.size)) (PIE X pins Y tg R) E {s with heap:=s.heap.push {cls:=.type "range",data:=.fields #[.int lo t,.int hi u,.int 1 v]},toks:=tk}:=by
 refine wpAny_pyIter_range (IsRange.new ..) (small_one h1 h2 h3 h4) ?_
 have I1:Inv X pins Y H {s with heap:=s.heap.push {cls:=.type "range",data:=.fields #[.int lo t,.int hi u,.int 1 v]},toks:=tk}:=I.kept λb o e=>Heap.get?_push_of_some _ e
 refine⟨(s.heap.push {cls:=.type "range",data:=.fields #[.int lo t,.int hi u,.int 1 v]}).objs.size,[(s.heap.push {cls:=.type "range",data:=.fields #[.int lo t,.int hi u,.int 1 v]}).objs.size],_,_,H,rfl,
  I1.kept (t':=tk) λb o e=>Heap.get?_push_of_some _ e,turn_range _ lo (hi-lo).toNat,?_,λb hb=>?_,q⟩
 .have e1:lo+((0:Nat):Int)*1=lo:=by simp
  have e2:(((hi-lo).toNat:Nat):Int)-((0:Nat):Int)=Builtin.Range.rangeSize lo hi 1:=by rw[rangeSize_one];split<;>lia
  rw[e1,e2]
  exact Heap.get?_push_size _ rfl
 .have e:b=(s.heap.push {cls:=.type "range",data:=.fields #[.int lo t,.int hi u,.int 1 v]}).objs.size:=by simpa using hb
  subst e
  exact I1.fpOk (Nat.le_refl _) (I1.hok.fresh (Nat.le_refl _))
def iRng1 (ta:TA):TI:=λY H R=>ta Y H λvs H1=>∃j:Int,vs=[.int j]/\-(2^62)<=j/\j<2^62/\R (Itr 0 j.toNat) H1
theorem pi_range1 {a:Expr}{ta:TA}{p pos:Pos}(hg:Gl X "range")(hm:X.mg "range"=none)(ha:PA X [a] ta)(hs:starEach [a] X.env=[(false,eval a X.env)]:=by rfl):PI X tg (.Call (.Name "range" p) [a] [] pos) (iRng1 ta):=by
 intro pins s Y H R I h
 refine Call_ (ld_blt I hg hm boot_range (PyProof.Rows.callWith_type1 (thn (ha pos pins s Y H _ I h) λus s1 ⟨vs,H1,I1,r1,q1⟩=>?_) hs rfl))
 obtain⟨j,e,q1,q2,q⟩:=q1
 subst e
 cases r1 with
 |cons r rr=>
  cases rr
  obtain⟨t,rfl⟩:=r
  exact call_range_1 (range_it I1 (by lia) (by lia) q1 q2 (by simpa using q))
def tFor (wi:TI)(g:TG)(tb:TS):TS:=λD Y H=>wi Y H λJ H1=>∃W:Nat->Nat->St->Hp->Prop,(∃m,W 0 m Y H1)/\∀i m Y H,W i m Y H->
 (J.stop i H/\D.nx Y H)∨(J.go i H/\∃N:St->Hp->Prop,(∀Y' H',N Y' H'->∃m',m'<m/\W (i+1) m' Y' H')/\∀x H',J.yld i H x H'->g x Y H' λY2 H2=>tb {D with nx:=N,ct:=N,bk:=D.nx} Y2 H2)
def pinsAt (fp:List Addr)(h:Heap):List (Addr×Obj):=fp.filterMap λb=>(h.get? b).map λo=>(b,o)
theorem mem_pinsAt {fp:List Addr}{h:Heap}{b:Addr}{o:Obj}(hb:b∈fp)(e:h.get? b=some o):(b,o)∈pinsAt fp h:=List.mem_filterMap.mpr ⟨b,hb,by rw[e];rfl⟩
theorem of_pinsAt {fp:List Addr}{h:Heap}{p:Addr×Obj}(hp:p∈pinsAt fp h):p.1∈fp/\h.get? p.1=some p.2:=by
 obtain⟨b,hb,e⟩:=List.mem_filterMap.mp hp
 cases q:h.get? b with
 |none=>rw[q]at e;cases e
 |some o=>
  rw[q]at e
  have e':(b,o)=p:=Option.some.inj e
  subst e'
  exact⟨hb,q⟩
theorem Inv.pinned {pins:List (Addr×Obj)}{Y:St}{H:Hp}{s:Shared}{fp:List Addr}(I:Inv X pins Y H s)(hf:∀b∈fp,FpOk X pins H b)(ho:∀b∈fp,∃o,s.heap.get? b=some o/\∀v,o.data≠.cell v):Inv X (pins++pinsAt fp s.heap) Y H s:=
 I.pins_of λp hp=>(List.mem_append.mp hp).elim (λz=>I.pin p (List.mem_append_right _ z)) λz=>by
  obtain⟨hb,e⟩:=of_pinsAt z
  obtain⟨f0,f1,f2,_⟩:=hf p.1 hb
  obtain⟨o,e',d⟩:=ho p.1 hb
  rw[e]at e';cases e'
  exact⟨e,f0,f1,f2,d⟩
theorem Inv.unpinned {pins pl:List (Addr×Obj)}{Y:St}{H:Hp}{s:Shared}(I:Inv X (pins++pl) Y H s):Inv X pins Y H s:=I.pins_of λp hp=>I.pin p (List.mem_append_right _ (List.mem_append_left _ hp))
theorem ps_for {iter:Expr}{body:List Stmt}{wi:TI}{g:TG}{tb:TS}{pos:Pos}(hp:PassesOwn (model X.prog X.w) X.A X.env X.xe)(hc:X.calm=true)(hi:PI X tg iter wi)(hg:PG X tg g)(hb:PSs X body tb)
  (hs:∀x,foldedSetIterable iter X.env x=pure x:=by intro _;rfl):PS X (.For tg iter body [] pos) (tFor wi g tb):=by
 intro pins s Y H D I h
 refine wpAny_For (thn (hi pins s Y H _ I h) λv s1 h1=>thn h1 λitv s2 h2=>?_) hs
 obtain⟨it,fp,tn,J,H2,e,I2,T,st2,f2,W,⟨m0,w0⟩,turn⟩:=h2
 subst e
 have stat:∀{H':Hp},(∀b∈fp,H' b=none)->∀b∈fp,FpOk X pins H' b:=λhn b hb=>⟨hn b hb,(f2 b hb).2⟩
 refine codeAny_forLoop_any (λn s'=>∃i Y' H',Inv X pins Y' H' s'/\tn i s'.heap/\(∀b∈fp,H' b=none)/\W i n Y' H') ?_ m0 ⟨0,Y,H2,I2,st2,λb hb=>(f2 b hb).1,w0⟩
 rintro n s3 ⟨i,Y3,H3,I3,st3,fr3,w3⟩
 rcases turn i n Y3 H3 w3 with⟨stop,qn⟩ | ⟨go,N,hN,step⟩
 .refine wpAny_passesOwn hp (thn (T.done X rfl rfl rfl hc i pins s3 Y3 H3 X.xe I3 (stat fr3) st3 stop) λr s4 ⟨hr,I4⟩=>?_)
  subst hr
  exact wpAny_execs_nil ⟨Y3,H3,I4,qn⟩
 .refine wpAny_passesOwn hp (thn (T.item X rfl rfl rfl hc i pins s3 Y3 H3 X.xe I3 (stat fr3) st3 go) λr s4 ⟨u,hr,h4⟩=>?_)
  subst hr
  refine wpAny_passesOwn hp (thn h4 λ_ s5 ⟨x,H5,I5,r5,y5,st5,fr5⟩=>?_)
  have I5':=I5.pinned (stat fr5) (T.obj _ _ st5)
  refine wpAny_passesOwn hp (thn (hg _ s5 Y3 H5 x u _ I5' r5 (step x H5 y5)) λ_ s6 ⟨Y6,H6,I6,q6⟩=>?_)
  refine wpAny_passesOwn hp (thn (hb _ s6 Y6 H6 _ I6 q6) λf s7 q7=>?_)
  have again:∀{Y7:St} {H7:Hp},Inv X (pins++pinsAt fp s5.heap) Y7 H7 s7->N Y7 H7->∃m,m<n/\∃i Y' H',Inv X pins Y' H' s7/\tn i s7.heap/\(∀b∈fp,H' b=none)/\W i m Y' H':=λ{Y7 H7} I7 n7=>by
   obtain⟨m',hm,w7⟩:=hN Y7 H7 n7
   refine⟨m',hm,i+1,Y7,H7,I7.unpinned,T.keep _ _ _ st5 λb hb o e=>(I7.pin (b,o) (List.mem_append_right _ (List.mem_append_right _ (mem_pinsAt hb e)))).1,λb hb=>?_,w7⟩
   obtain⟨o,e,d⟩:=T.obj _ _ st5 b hb
   exact (I7.pin (b,o) (List.mem_append_right _ (List.mem_append_right _ (mem_pinsAt hb e)))).2.1
  cases f with
  |next=>obtain⟨Y7,H7,I7,n7⟩:=q7;exact again I7 n7
  |cont=>obtain⟨Y7,H7,I7,n7⟩:=q7;exact again I7 n7
  |brk=>obtain⟨Y7,H7,I7,q7⟩:=q7;exact⟨Y7,H7,I7.unpinned,q7⟩
  |ret v=>obtain⟨x7,Y7,H7,I7,r7,q7⟩:=q7;exact⟨x7,Y7,H7,I7.unpinned,r7,q7⟩
end
abbrev R2:=V->V->Hp->VK->Prop
def OpR (X:Cx)(f:Value->Value->Sem Value)(r:R2):Prop:=
 ∀(pins:List (Addr×Obj)) (s:Shared) (Y:St) (H:Hp) (x y:V) (v u:Value) (Q:VK),Inv X pins Y H s->RelV x v->RelV y u->r x y H Q->
  wpAny (model X.prog X.w) X.A (f v u) (EP X pins Y Q) X.xe s
def UnR (X:Cx)(f:Value->Sem Value)(r:V->Hp->VK->Prop):Prop:=
 ∀(pins:List (Addr×Obj)) (s:Shared) (Y:St) (H:Hp) (x:V) (v:Value) (Q:VK),Inv X pins Y H s->RelV x v->r x H Q->
  wpAny (model X.prog X.w) X.A (f v) (EP X pins Y Q) X.xe s
def CallR (X:Cx)(f:Value)(r:List V->Hp->VK->Prop):Prop:=
 ∀(pins:List (Addr×Obj)) (s:Shared) (Y:St) (H:Hp) (xs:List V) (us:List Value) (Q:VK),Inv X pins Y H s->Vals xs us->r xs H Q->
  wpAny (model X.prog X.w) X.A (call f us) (EP X pins Y Q) X.xe s
def TruR (X:Cx)(r:V->Hp->(Bool->Hp->Prop)->Prop):Prop:=
 ∀(pins:List (Addr×Obj)) (s:Shared) (Y:St) (H:Hp) (x:V) (v:Value) (Q:Bool->Hp->Prop),Inv X pins Y H s->RelV x v->r x H Q->
  wpAny (model X.prog X.w) X.A (truthy v) (TP X pins Y Q) X.xe s
def tOp (r:R2)(ta tb:TE):TE:=λY H Q=>ta Y H λx H1=>tb Y H1 λy H2=>r x y H2 Q
def tUn (r:V->Hp->VK->Prop)(ta:TE):TE:=λY H Q=>ta Y H λx H1=>r x H1 Q
def rI (C:Int->Int->Prop)(g:Int->Int->V):R2:=λx y H Q=>∃i j,x = .int i/\y = .int j/\C i j/\Q (g i j) H
def rI0 (g:Int->Int->V):R2:=λx y H Q=>∃i j,x = .int i/\y = .int j/\Q (g i j) H
def rU (g:Int->V):V->Hp->VK->Prop:=λx H Q=>∃i,x = .int i/\Q (g i) H
section
variable {X:Cx}{a b c:Expr}{ta tb tc:TE}{pos:Pos}
theorem binT (ha:PE X a ta)(hb:PE X b tb){pins:List (Addr×Obj)}{s:Shared}{Y:St}{H:Hp}{R:V->V->Hp->Prop}(I:Inv X pins Y H s)
  (h:ta Y H λx H1=>tb Y H1 λy H2=>R x y H2) {Q:Value->Shared->Prop} {f:Value->Value->Sem Value}
  (hf:∀v u s2 x y H2,Inv X pins Y H2 s2->RelV x v->RelV y u->R x y H2->wpAny (model X.prog X.w) X.A (f v u) Q X.xe s2):
  wpAny (model X.prog X.w) X.A (eval a X.env) (λv s₁=>wpAny (model X.prog X.w) X.A (eval b X.env) (λu s₂=>wpAny (model X.prog X.w) X.A (f v u) Q X.xe s₂) X.xe s₁) X.xe s:=by
 refine thn (ha pins s Y H _ I h) λv s1 ⟨x,H1,I1,r1,q1⟩=>?_
 refine thn (hb pins s1 Y H1 _ I1 q1) λu s2 ⟨y,H2,I2,r2,q2⟩=>?_
 exact hf v u s2 x y H2 I2 r1 r2 q2
theorem Xay {op:Operator}{r:R2}(ho:OpR X (binaryOp op) r)(ha:PE X a ta)(hb:PE X b tb):PE X (.BinOp a op b pos) (tOp r ta tb):=by
 intro pins s Y H Q I h
 exact wpAny_BinOp (binT ha hb I h λv u s2 x y H2 I2 rx ry q=>ho pins s2 Y H2 x y v u Q I2 rx ry q)
theorem pe_un {op:UnaryOp}{r:V->Hp->VK->Prop}(ho:UnR X (unaryOp op) r)(ha:PE X a ta):PE X (.UnaryOp op a pos) (tUn r ta):=by
 intro pins s Y H Q I h
 exact UnaryOp_ (thn (ha pins s Y H _ I h) λv s1 ⟨x,H1,I1,r1,q1⟩=>ho pins s1 Y H1 x v Q I1 r1 q1)
theorem opI {f:Value->Value->Sem Value}{C:Int->Int->Prop}{g:Int->Int->Int}
  (rule:∀(i j:Int) (t u:Tok) (s:Shared) (Q:Value->Shared->Prop) (E:Value->Shared->Prop),C i j->Q (.int (g i j) s.toks) {s with toks:=s.toks+1}->wpAny (model X.prog X.w) X.A (f (.int i t) (.int j u)) Q E s):
  OpR X f (rI C λi j=>.int (g i j)):=by
 intro pins s Y H x y v u Q I rx ry h
 obtain⟨i,j,rfl,rfl,hc,q⟩:=h
 obtain⟨t,rfl⟩:=rx
 obtain⟨t',rfl⟩:=ry
 exact rule i j t t' s _ _ hc ⟨.int (g i j),H,I.tok _,⟨_,rfl⟩,q⟩
theorem opI0 {f:Value->Value->Sem Value}{g:Int->Int->Int}
  (rule:∀(i j:Int) (t u:Tok) (s:Shared) (Q:Value->Shared->Prop) (E:Value->Shared->Prop),Q (.int (g i j) s.toks) {s with toks:=s.toks+1}->wpAny (model X.prog X.w) X.A (f (.int i t) (.int j u)) Q E s):
  OpR X f (rI0 λi j=>.int (g i j)):=by
 intro pins s Y H x y v u Q I rx ry h
 obtain⟨i,j,rfl,rfl,q⟩:=h
 obtain⟨t,rfl⟩:=rx
 obtain⟨t',rfl⟩:=ry
 exact rule i j t t' s _ _ ⟨.int (g i j),H,I.tok _,⟨_,rfl⟩,q⟩
theorem opB0 {f:Value->Value->Sem Value}{g:Int->Int->Bool}
  (rule:∀(i j:Int) (t u:Tok) (s:Shared) (Q:Value->Shared->Prop) (E:Value->Shared->Prop),Q (.bool (g i j)) s->wpAny (model X.prog X.w) X.A (f (.int i t) (.int j u)) Q E s):
  OpR X f (rI0 λi j=>.bl (g i j)):=by
 intro pins s Y H x y v u Q I rx ry h
 obtain⟨i,j,rfl,rfl,q⟩:=h
 obtain⟨t,rfl⟩:=rx
 obtain⟨t',rfl⟩:=ry
 exact rule i j t t' s _ _ ⟨.bl (g i j),H,I,rfl,q⟩
def CDiv (i j:Int):Prop:=0<j/\j<1073741824
def CPow (i j:Int):Prop:=0<=j/\j<=1000000/\i.natAbs<2^64
def CMul (i j:Int):Prop:=(-(2^64)<i/\i<2^64)∨(-(2^64)<j/\j<2^64)
theorem CMul.ok {i j:Int}(h:CMul i j):IntMulOk i j:=by
 rcases h with⟨h1,h2⟩ | ⟨h1,h2⟩
 .exact .of_left (intBits_le_64 h1 h2)
 .exact .of_right (intBits_le_64 h1 h2)
theorem two_pow_nn (k:Nat):(0:Int)<=2^k:=by
 exact Int.natCast_nonneg _
theorem op_add:OpR X (binaryOp .Add) (rI0 λi j=>.int (i+j)):=opI0 λ_ _ _ _ _ _ _ q=>add_int q
theorem op_sub:OpR X (binaryOp .Sub) (rI0 λi j=>.int (i-j)):=opI0 λ_ _ _ _ _ _ _ q=>sub_int q
theorem op_mul:OpR X (binaryOp .Mult) (rI CMul λi j=>.int (i*j)):=opI λ_ _ _ _ _ _ _ hc q=>mul_int q hc.ok
theorem op_fdiv:OpR X (binaryOp .FloorDiv) (rI CDiv λi j=>.int (i / j)):=opI λi j _ _ _ _ _ hc q=>by
 have h1:(0:Int)<j:=hc.1
 have h2:j<1073741824:=hc.2
 exact floordiv_int (by lia) (by rw[Int.fdiv_eq_ediv_of_nonneg i (by lia)];exact q) (.inl (PyProof.noPylong_small (by omega)))
theorem op_mod:OpR X (binaryOp .Mod) (rI (λ_ j=>0<j) λi j=>.int (i%j)):=opI λi j _ _ _ _ _ hc q=>by
 exact mod_int' (by lia) (by rw[Int.fmod_eq_emod_of_nonneg i (by lia)];exact q)
theorem op_pow:OpR X (binaryOp .Pow) (rI CPow λi j=>.int (i^j.toNat)):=opI λ_ _ _ _ _ _ _ hc q=>pow_int_small hc.1 hc.2.1 hc.2.2 q
theorem op_shl:OpR X (binaryOp .LShift) (rI CPow λi j=>.int (i*2^j.toNat)):=opI λ_ _ _ _ _ _ _ hc q=>lshift_int_small hc.1 hc.2.1 hc.2.2 q
theorem op_shr:OpR X (binaryOp .RShift) (rI (λ_ j=>0<=j) λi j=>.int (i / 2^j.toNat)):=opI λi j _ _ _ _ _ hc q=>
 rshift_int hc (by rw[Int.fdiv_eq_ediv_of_nonneg i (two_pow_nn _)];exact q)
theorem op_and:OpR X (binaryOp .BitAnd) (rI0 λi j=>.int (Builtin.bitAnd i j)):=opI0 λ_ _ _ _ _ _ _ q=>and_int q
theorem op_or:OpR X (binaryOp .BitOr) (rI0 λi j=>.int (Builtin.bitOr i j)):=opI0 λ_ _ _ _ _ _ _ q=>or_int q
theorem unI {f:Value->Sem Value}{g:Int->Int}
  (rule:∀(i:Int) (t:Tok) (s:Shared) (Q:Value->Shared->Prop) (E:Value->Shared->Prop),Q (.int (g i) s.toks) {s with toks:=s.toks+1}->wpAny (model X.prog X.w) X.A (f (.int i t)) Q E s):
  UnR X f (rU λi=>.int (g i)):=by
 intro pins s Y H x v Q I rx h
 obtain⟨i,rfl,q⟩:=h
 obtain⟨t,rfl⟩:=rx
 exact rule i t s _ _ ⟨.int (g i),H,I.tok _,⟨_,rfl⟩,q⟩
theorem un_neg:UnR X (unaryOp .USub) (rU λi=>.int (-i)):=unI λ_ _ _ _ _ q=>neg_int q
end
def scal:V->V->Bool
 | .non,.non=>true | .non,.int _=>true | .int _,.non=>true | .non,.bl _=>true | .bl _,.non=>true | .non,.str _=>true | .str _,.non=>true
 | .int _,.int _=>true | .bl _,.bl _=>true | .str _,.str _=>true | .byt _,.byt _=>true
 | .int _,.str _=>true | .str _,.int _=>true | .bl _,.str _=>true | .str _,.bl _=>true
 |_,_=>false
def rEq:R2:=λx y H Q=>scal x y=true/\Q (.bl (decide (x=y))) H
def rNe:R2:=λx y H Q=>scal x y=true/\Q (.bl (!decide (x=y))) H
theorem dec_int {i j:Int}:decide (V.int i=V.int j)=(i==j):=by
 rw[Bool.eq_iff_iff]
 simp
theorem dec_bl {i j:Bool}:decide (V.bl i=V.bl j)=(i==j):=by
 rw[Bool.eq_iff_iff]
 simp
theorem dec_str {i j:Str}:decide (V.str i=V.str j)=(i==j):=by
 rw[Bool.eq_iff_iff]
 simp
theorem dec_byt {i j:Array UInt8}:decide (V.byt i=V.byt j)=(i.toList==j.toList):=by
 rw[Bool.eq_iff_iff]
 cases i
 cases j
 simp
section
variable {X:Cx}{a b c:Expr}{ta tb tc:TE}{pos:Pos}
theorem fin_bl {pins:List (Addr×Obj)}{Y:St}{H:Hp}{s:Shared}{Q:VK}{k k':Bool}(I:Inv X pins Y H s)(q:Q (.bl k) H)(e:k=k'):EP X pins Y Q (.bool k') s:=by
 subst e
 exact⟨.bl k,H,I,rfl,q⟩
theorem op_eq:OpR X (compareOp .Eq) rEq:=by
 intro pins s Y H x y v u Q I rx ry h
 obtain⟨hs,q⟩:=h
 cases x with
 |non=>
  cases rx
  cases y with
  |non=>cases ry;exact PySem.EqNone.eq_none_none (fin_bl I q rfl)
  |bl j=>cases ry;exact PySem.EqNone.eq_none_bool (fin_bl I q rfl)
  |int j=>obtain⟨t',rfl⟩:=ry;exact PySem.EqNone.eq_none_int (fin_bl I q rfl)
  |str j=>obtain⟨t',rfl⟩:=ry;exact PySem.EqNone.eq_none_str (fin_bl I q rfl)
  |_=>exact absurd (show false=true from hs) Bool.false_ne_true
 |bl i=>
  cases rx
  cases y with
  |non=>cases ry;exact PySem.EqNone.eq_bool_none (fin_bl I q rfl)
  |bl j=>cases ry;exact eq_bool (fin_bl I q dec_bl)
  |str j=>obtain⟨t',rfl⟩:=ry;exact PySem.EqMixed.eq_bool_str (fin_bl I q rfl)
  |_=>exact absurd (show false=true from hs) Bool.false_ne_true
 |int i=>
  obtain⟨t,rfl⟩:=rx
  cases y with
  |non=>cases ry;exact PySem.EqNone.eq_int_none (fin_bl I q rfl)
  |int j=>obtain⟨t',rfl⟩:=ry;exact eq_int (fin_bl I q dec_int)
  |str j=>obtain⟨t',rfl⟩:=ry;exact PySem.EqMixed.eq_int_str (fin_bl I q rfl)
  |_=>exact absurd (show false=true from hs) Bool.false_ne_true
 |str i=>
  obtain⟨t,rfl⟩:=rx
  cases y with
  |non=>cases ry;exact PySem.EqNone.eq_str_none (fin_bl I q rfl)
  |bl j=>cases ry;exact PySem.EqMixed.eq_str_bool (fin_bl I q rfl)
  |int j=>obtain⟨t',rfl⟩:=ry;exact PySem.EqMixed.eq_str_int (fin_bl I q rfl)
  |str j=>obtain⟨t',rfl⟩:=ry;exact eq_str (fin_bl I q dec_str)
  |_=>exact absurd (show false=true from hs) Bool.false_ne_true
 |byt i=>
  obtain⟨t,rfl⟩:=rx
  cases y with
  |byt j=>obtain⟨t',rfl⟩:=ry;exact PySem.W.eq_bytes (fin_bl I q dec_byt)
  |_=>exact absurd (show false=true from hs) Bool.false_ne_true
 |_=>cases y<;>exact absurd (show false=true from hs) Bool.false_ne_true
theorem op_ne:OpR X (compareOp .NotEq) rNe:=by
 intro pins s Y H x y v u Q I rx ry h
 obtain⟨hs,q⟩:=h
 cases x with
 |non=>
  cases rx
  cases y with
  |non=>cases ry;exact PySem.EqNone.ne_none_none (fin_bl I q rfl)
  |bl j=>cases ry;exact PySem.EqNone.ne_none_bool (fin_bl I q rfl)
  |int j=>obtain⟨t',rfl⟩:=ry;exact PySem.EqNone.ne_none_int (fin_bl I q rfl)
  |str j=>obtain⟨t',rfl⟩:=ry;exact PySem.EqNone.ne_none_str (fin_bl I q rfl)
  |_=>exact absurd (show false=true from hs) Bool.false_ne_true
 |bl i=>
  cases rx
  cases y with
  |non=>cases ry;exact PySem.EqNone.ne_bool_none (fin_bl I q rfl)
  |bl j=>cases ry;exact ne_bool (fin_bl I q (congrArg not dec_bl))
  |str j=>obtain⟨t',rfl⟩:=ry;exact PySem.EqMixed.ne_bool_str (fin_bl I q rfl)
  |_=>exact absurd (show false=true from hs) Bool.false_ne_true
 |int i=>
  obtain⟨t,rfl⟩:=rx
  cases y with
  |non=>cases ry;exact PySem.EqNone.ne_int_none (fin_bl I q rfl)
  |int j=>obtain⟨t',rfl⟩:=ry;exact ne_int (fin_bl I q (congrArg not dec_int))
  |str j=>obtain⟨t',rfl⟩:=ry;exact PySem.EqMixed.ne_int_str (fin_bl I q rfl)
  |_=>exact absurd (show false=true from hs) Bool.false_ne_true
 |str i=>
  obtain⟨t,rfl⟩:=rx
  cases y with
  |non=>cases ry;exact PySem.EqNone.ne_str_none (fin_bl I q rfl)
  |bl j=>cases ry;exact PySem.EqMixed.ne_str_bool (fin_bl I q rfl)
  |int j=>obtain⟨t',rfl⟩:=ry;exact PySem.EqMixed.ne_str_int (fin_bl I q rfl)
  |str j=>obtain⟨t',rfl⟩:=ry;exact ne_str (fin_bl I q (congrArg not dec_str))
  |_=>exact absurd (show false=true from hs) Bool.false_ne_true
 |byt i=>
  obtain⟨t,rfl⟩:=rx
  cases y with
  |byt j=>obtain⟨t',rfl⟩:=ry;exact PySem.W.ne_bytes (fin_bl I q (congrArg not dec_byt))
  |_=>exact absurd (show false=true from hs) Bool.false_ne_true
 |_=>cases y<;>exact absurd (show false=true from hs) Bool.false_ne_true
theorem op_lt:OpR X (compareOp .Lt) (rI0 λi j=>.bl (decide (i<j))):=opB0 λ_ _ _ _ _ _ _ q=>lt_int q
theorem op_le:OpR X (compareOp .LtE) (rI0 λi j=>.bl (decide (i<=j))):=opB0 λ_ _ _ _ _ _ _ q=>le_int q
theorem op_gt:OpR X (compareOp .Gt) (rI0 λi j=>.bl (decide (j<i))):=opB0 λ_ _ _ _ _ _ _ q=>gt_int q
theorem op_ge:OpR X (compareOp .GtE) (rI0 λi j=>.bl (decide (j<=i))):=opB0 λ_ _ _ _ _ _ _ q=>ge_int q
theorem op_isN:OpR X (compareOp .Is) (λx y H Q=>y = .non/\Q (.bl (decide (x = .non))) H):=by
 intro pins s Y H x y v u Q I rx ry h
 obtain⟨rfl,q⟩:=h
 cases ry
 refine is_none_gen (fin_bl I q ?_)
 cases x<;>first
  | (cases rx;rfl)
  | (obtain⟨t,rfl⟩:=rx;rfl)
theorem op_notN:OpR X (compareOp .IsNot) (λx y H Q=>y = .non/\Q (.bl (!decide (x = .non))) H):=by
 intro pins s Y H x y v u Q I rx ry h
 obtain⟨rfl,q⟩:=h
 cases ry
 refine isnot_none_gen (fin_bl I q ?_)
 cases x<;>first
  | (cases rx;rfl)
  | (obtain⟨t,rfl⟩:=rx;rfl)
theorem nomark (b:Expr){op:CmpOp}(h:op≠.In:=by decide)(h2:op≠.NotIn:=by decide):behindInMarks op b=false:=by
 have e1:(op==CmpOp.In)=false:=by cases op<;>first |rfl |exact absurd rfl h
 have e2:(op==CmpOp.NotIn)=false:=by cases op<;>first |rfl |exact absurd rfl h2
 cases b<;>simp[behindInMarks,e1,e2]
theorem pe_cmpR {op:CmpOp}{r:R2}(ho:OpR X (compareOp op) r)(ha:PE X a ta)(hb:PE X b tb)(hm:behindInMarks op b=false):PE X (.Compare a [op] [b] pos) (tOp r ta tb):=by
 intro pins s Y H Q I h
 exact wpAny_Compare1 (binT ha hb I h λv u s2 x y H2 I2 rx ry q=>ho pins s2 Y H2 x y v u Q I2 rx ry q) hm
def tTest (t:TE):TT:=λY H Q=>t Y H λx H'=>∃k,x = .bl k/\Q k H'
theorem pt_cmpR {op:CmpOp}{r:R2}(ho:OpR X (compareOp op) r)(ha:PE X a ta)(hb:PE X b tb)(hm:behindInMarks op b=false):PT X (.Compare a [op] [b] pos) (tTest (tOp r ta tb)):=by
 intro pins s Y H Q I h
 refine wpAny_isTrue_Compare1 (thn (ha pins s Y H _ I h) λv s1 ⟨x,H1,I1,r1,q1⟩=>thn (hb pins s1 Y H1 _ I1 q1) λu s2 ⟨y,H2,I2,r2,q2⟩=>
  thn (ho pins s2 Y H2 x y v u _ I2 r1 r2 q2) λc s3 ⟨z,H3,I3,r3,k,e,q3⟩=>?_) hm
 subst e
 cases r3
 exact wpAny_truthy_bool ⟨H3,I3,q3⟩
def tChain (r r':R2)(ta tb tc:TE):TE:=λY H Q=>ta Y H λx H1=>tb Y H1 λy H2=>r x y H2 λz H3=>∃k,z = .bl k/\
 (if k=true then tc Y H3 λw' H4=>r' y w' H4 Q else Q (.bl false) H3)
theorem pe_chain {op op':CmpOp}{r r':R2}(ho:OpR X (compareOp op) r)(ho':OpR X (compareOp op') r')(ha:PE X a ta)(hb:PE X b tb)(hc:PE X c tc)
  (hm:lastMarks [op,op'] [b,c]=false:=by with_unfolding_all rfl):PE X (.Compare a [op,op'] [b,c] pos) (tChain r r' ta tb tc):=by
 intro pins s Y H Q I h
 refine Compare_chain (thn (ha pins s Y H _ I h) λv s1 ⟨x,H1,I1,r1,q1⟩=>chain_link (thn (hb pins s1 Y H1 _ I1 q1) λu s2 ⟨y,H2,I2,r2,q2⟩=>
  thn (ho pins s2 Y H2 x y v u _ I2 r1 r2 q2) λd s3 ⟨z,H3,I3,r3,k,e,q3⟩=>?_)) hm
 subst e
 cases r3
 refine wpAny_truthy_bool ?_
 cases k with
 |false=>exact ite_ff ⟨.bl false,H3,I3,rfl,q3⟩
 |true=>exact ite_tt (chain_last (thn (hc pins s3 Y H3 _ I3 q3) λw' s4 ⟨z',H4,I4,r4,q4⟩=>ho' pins s4 Y H4 y z' u w' Q I4 r2 r4 q4))
theorem pt_chain {op op':CmpOp}{r r':R2}(ho:OpR X (compareOp op) r)(ho':OpR X (compareOp op') r')(ha:PE X a ta)(hb:PE X b tb)(hc:PE X c tc)
  (hm:lastMarks [op,op'] [b,c]=false:=by with_unfolding_all rfl):PT X (.Compare a [op,op'] [b,c] pos) (tTest (tChain r r' ta tb tc)):=by
 intro pins s Y H Q I h
 refine isTrue_chain (thn (ha pins s Y H _ I h) λv s1 ⟨x,H1,I1,r1,q1⟩=>test_link (thn (hb pins s1 Y H1 _ I1 q1) λu s2 ⟨y,H2,I2,r2,q2⟩=>
  thn (ho pins s2 Y H2 x y v u _ I2 r1 r2 q2) λd s3 ⟨z,H3,I3,r3,k,e,q3⟩=>?_)) hm
 subst e
 cases r3
 refine wpAny_truthy_bool ?_
 cases k with
 |false=>
  obtain⟨k',e',q'⟩:=q3
  cases e'
  exact ite_ff ⟨H3,I3,q'⟩
 |true=>
  refine ite_tt (test_last (thn (hc pins s3 Y H3 _ I3 q3) λw' s4 ⟨z',H4,I4,r4,q4⟩=>thn (ho' pins s4 Y H4 y z' u w' _ I4 r2 r4 q4) λd' s5 ⟨z2,H5,I5,r5,k2,e2,q5⟩=>?_))
  subst e2
  cases r5
  exact wpAny_truthy_bool ⟨H5,I5,q5⟩
def TruV (K:Frag)(x:V)(H:Hp)(k:Bool):Prop:=
 match x with
 | .non=>k=false
 | .bl b=>k=b
 | .int i=>k=(i != 0)
 | .str y=>y.length<=sizeLine/\k=((y.length:Int) != 0)
 | .byt y=>y.size<=sizeLine/\k=((y.size:Int) != 0)
 | .ref p=>(∃xs,SqL K H p xs/\k = !xs.isEmpty)∨(∃xs,SqT K H p xs/\k = !xs.isEmpty)∨∃kvs,H p=some (.dK kvs)/\k = !kvs.isEmpty
 |_=>False
theorem isEmpty_kv {κ:Type}{kvs:List (κ×V)}{vs:List (κ×Value)}(r:KV kvs vs):(!vs.isEmpty) = !kvs.isEmpty:=by
 cases r<;>rfl
theorem isEmpty_of {xs:List V}{its:List Value}(r:Vals xs its):(!its.toArray.isEmpty) = !xs.isEmpty:=by
 cases r<;>simp
theorem line63:(sizeLine:Nat)<2^63:=by rw[sizeLine_eq];decide
theorem tru_ok:TruR X (λx H Q=>∃k,TruV X.K x H k/\Q k H):=by
 intro pins s Y H x v Q I rx h
 obtain⟨k,e,q⟩:=h
 have hs:sizeLine=16777216:=sizeLine_eq
 cases x with
 |non=>
  cases rx
  have e':k=false:=e
  subst e'
  exact truthy_none ⟨H,I,q⟩
 |bl b=>
  cases rx
  have e':k=b:=e
  subst e'
  exact wpAny_truthy_bool ⟨H,I,q⟩
 |int i=>
  obtain⟨t,rfl⟩:=rx
  have e':k=(i != 0):=e
  subst e'
  exact PySem.P.truthy_int ⟨H,I,q⟩
 |str y=>
  obtain⟨t,rfl⟩:=rx
  obtain⟨hy,e'⟩:y.length<=sizeLine/\k=((y.length:Int) != 0):=e
  subst e'
  exact PySem.P.truthy_str (by lia) ⟨H,I.tok _,q⟩
 |byt y=>
  obtain⟨t,rfl⟩:=rx
  obtain⟨hy,e'⟩:y.size<=sizeLine/\k=((y.size:Int) != 0):=e
  subst e'
  exact PySem.W.truthy_bytes (by lia) ⟨H,I.tok _,q⟩
 |ref p=>
  cases rx
  have e':(∃xs,SqL X.K H p xs/\k = !xs.isEmpty)∨(∃xs,SqT X.K H p xs/\k = !xs.isEmpty)∨∃kvs,H p=some (.dK kvs)/\k = !kvs.isEmpty:=e
  rcases e' with⟨xs,hx,e'⟩ | ⟨xs,hx,e'⟩ | ⟨kvs,hx,e'⟩
  .subst e'
   obtain⟨its,r,pl,hz⟩:=I.list hx
   have hlen:=r.length
   exact wpAny_truthy_list pl.isList (by simp only[List.size_toArray];lia) ⟨H,I.tok _,by rw[isEmpty_of r];exact q⟩
  .subst e'
   obtain⟨its,r,pl,hz⟩:=I.tuple hx
   have hlen:=r.length
   exact truthy_tuple pl (by simp only[List.size_toArray];lia) ⟨H,I.tok _,by rw[isEmpty_of r];exact q⟩
  .subst e'
   obtain⟨hz,hS,vs,r,m⟩:kvs.length<=sizeLine/\(p==sysModules)=false/\∃vs,KV kvs vs/\s.heap.DictOf (mixKind X.prog X.w) p vs:=I.hok p _ hx
   have hlen:kvs.length=vs.length:=Paired.length r
   exact wpAny_truthy_dict hS m (by lia) ⟨H,I.tok _,by rw[isEmpty_kv r];exact q⟩
 |_=>exact (show False from e).elim
theorem pt_truth (ha:PE X a ta)(he:∀whole,isTrue a X.env whole=(do let v <- whole;standAt a.pos;holding [v] (truthy v))):
  PT X a (λY H Q=>ta Y H λx H'=>∃k,TruV X.K x H' k/\Q k H'):=by
 intro pins s Y H Q I h
 exact isTrue_plain (thn (ha pins s Y H _ I h) λv s1 ⟨x,H1,I1,r1,q1⟩=>tru_ok pins s1 Y H1 x v Q I1 r1 q1) (he _)
theorem vals1 {x:V}{us:List Value}(r:Vals [x] us):∃u,us=[u]/\RelV x u:=by
 cases r with
 |cons r1 r2=>cases r2;exact⟨_,rfl,r1⟩
theorem vals2 {x y:V}{us:List Value}(r:Vals [x,y] us):∃u w',us=[u,w']/\RelV x u/\RelV y w':=by
 cases r with
 |cons r1 r2=>
  cases r2 with
  |cons r3 r4=>cases r4;exact⟨_,_,rfl,r1,r3⟩
theorem call_abs:CallR X (.builtin "abs") (λxs H Q=>∃i,xs=[.int i]/\Q (.int (if i<0 then -i else i)) H):=by
 intro pins s Y H xs us Q I r h
 obtain⟨i,rfl,q⟩:=h
 obtain⟨u,rfl,t,rfl⟩:=vals1 r
 exact call_abs_int λu tk=>⟨.int (if i<0 then -i else i),H,I.tok _,⟨_,rfl⟩,q⟩
end
structure ObjM (h:Heap) (x dx C:Addr) (mA:Str->Option Value):Prop where
 obj:h.get? x=some (PySem.W.instObj C dx)
 ns:h.Ns1 dx mA
 ne:dx≠x
theorem lookIn_ns {h:Heap}{dx:Addr}{mA:Str->Option Value}(n:h.Ns1 dx mA):∃od,h.get? dx=some od/\∀name,PySem.W.lookIn name od=some (mA name):=by
 obtain⟨o,es,ep,ho,hd,hk,_,hm⟩:=n
 refine⟨o,ho,λname=>?_⟩
 have e:=hm name
 unfold nsFind findBy at e
 rw[<- Array.find?_toList]at e
 unfold PySem.W.lookIn
 rw[hd]
 dsimp only
 split
 .rename_i y q
  rw[q]at e
  exact congrArg some e
 .rename_i q
  rw[q]at e
  have a:es.toList.any (·.refKey)=false:=by
   rw[List.any_eq_false]
   intro y hy
   obtain⟨z,t,hkey⟩:=hk y (Array.mem_toList_iff.mp hy)
   simp[DictEntry.refKey,hkey]
  have a':¬ es.toList.any (·.refKey)=true:=by rw[a];exact Bool.false_ne_true
  rw[if_neg a']
  exact congrArg some e
theorem ObjM.look {h:Heap}{x dx C:Addr}{mA:Str->Option Value}(I:ObjM h x dx C mA):∃od,PySem.W.InstAt h x (PySem.W.instObj C dx) C (some od)/\∀name,PySem.W.lookIn name od=some (mA name):=
 let⟨od,ho,hl⟩:=lookIn_ns I.ns
 ⟨od,⟨I.obj,rfl,rfl,ho⟩,hl⟩
section
variable {prog:Program}{w:World}{A:Around}{E:Value->Shared->Prop}{s:Shared}{K:Frag}{x dx C f:Addr}{mA:Str->Option Value}{name:Str}{v:Value}
theorem get_map {expr:Bool}{Q:Value->Shared->Prop}(X:K.In s.heap)(I:ObjM s.heap x dx C mA)(hg:PySem.W.plainGet K C name=true)(hh:PySem.W.hasDictIn K C=true)
  (ha:PySem.W.findIn K (.ref C) name=some none) (hv:mA name=some v) (hv':PySem.W.handedIn v=true) (h:Q v {s with toks:=s.toks+1}):
  wpAny (model prog w) A (getAttr (.ref x) name expr) Q E s:=by
 obtain⟨od,J,hl⟩:=I.look
 exact PySem.W.get_value X J (PySem.W.plainGet_of hg).1 (PySem.W.findObj_own hh ha rfl (by rw[hl,hv])) hv' h
theorem get_meth {pl:Sem Bool}{Q:Value×List Value->Shared->Prop}(X:K.In s.heap)(I:ObjM s.heap x dx C mA)(hg:PySem.W.plainGet K C name=true)
  (hf:PySem.W.findIn K (.ref C) name=some (some (.ref f))) (ht:PySem.W.isFn K (.ref f)=true) (hv:mA name=none) (h:Q (.ref f,[.ref x]) s):
  wpAny (model prog w) A (getMethod (.ref x) name pl) Q E s:=by
 obtain⟨od,J,hl⟩:=I.look
 exact PySem.W.method_fn X J (PySem.W.plainGet_of hg).1 (PySem.W.plainGet_of hg).2 hf (beq_iff_eq.mp ht) (by show (PySem.W.lookIn name od).map (·.isSome)=some false;rw[hl,hv];rfl) h
theorem set_map {ns:List Str}{Q:Unit->Shared->Prop}(X:K.In s.heap)(I:ObjM s.heap x dx C mA)
  (hs:PySem.W.findIn K (.ref C) "__setattr__"=some (some (.builtin "object.__setattr__"))) (hp:PySem.W.plainOver K C=true) (ht:PySem.W.takerIn K C name=some none) (hh:PySem.W.hasDictIn K C=true)
  (hw:PySem.Within mA ns) (hsz:ns.length<=sizeLine)
  (h:∀h',ObjM h' x dx C (λy=>if y=name then some v else mA y)->Heap.SameBut dx s.heap h'->Q () {s with heap:=h',toks:=s.toks+2}):
  wpAny (model prog w) A (setAttr (.ref x) name v) Q E s:=by
 obtain⟨od,J,hl⟩:=I.look
 refine PySem.W.set_plain X J hs (PySem.W.osa_open (s:={s with toks:=s.toks+1}) X J hp ht λb=>?_)
 obtain⟨cd,hc,hd'⟩:=PySem.W.any_some hh
 have hx:s.heap.get? x=some ⟨.ref C,some dx,.plain,#[]⟩:=I.obj
 refine wpAny_bind (wpAny_pure (wpAny_bind (wpAny_bind (wpAny_loadPart hx (wpAny_bind (PySem.W.Looks.here (s:={s with toks:=s.toks+1}) (PySem.W.looks_clsIn X hc) ?_))))))
 rw[hd']
 refine wpAny_pure (a:=some dx) (wpAny_bind (wpAny_pure (wpAny_bind ?_)))
 refine wpAny_nsSet1 (s:={s with toks:=s.toks+1}) I.ns λh' hn2 hs2=>?_
 obtain⟨oD,esD,epD,hoD,hdD,hcD⟩:=hn2.count (PySem.Within.cons name v hw)
 refine wpAny_bind (wpAny_lookBehind hoD (by rw[hdD];exact pastItsLine_dict (Nat.le_trans hcD (by rw[List.length_cons];lia))) ?_)
 exact wpAny_pure (h _ ⟨(hs2.2 _ (Ne.symm I.ne)).trans I.obj,hn2,I.ne⟩ hs2)
theorem make_map {R:Result->Shared->Prop}{vs:List Value}{kw:List (Str×Value)}(X:K.In s.heap)(hm:PySem.W.makesIn K C=true)
  (hi:PySem.W.findIn K (.ref C) "__init__"=some (some (.ref f))) (hf:PySem.W.typeIn K (.ref f)=some (.type "function"))
  (h:codeAny (model prog w) (A.under (.builtin "type.__call__" ⟨.ref C::vs,kw⟩)) (.call (.ref f) ⟨.ref (s.heap.objs.size+1)::vs,kw⟩) (PySem.W.InitBack (s.heap.objs.size+1) R)
   {s with heap:=(s.heap.push PySem.W.emptyDict).push (PySem.W.instObj C s.heap.objs.size)}):
  codeAny (model prog w) A (.call (.ref C) ⟨vs,kw⟩) R s:=by
 exact PySem.W.make_core (PySem.W.makes_of X hm) (PySem.W.looks_findIn X hi) (λself=>PySem.W.bind_fn X self hf) (.inl rfl) h
end
def putF (f:Str)(v:V):List (Str×V)->List (Str×V)
 | []=>[(f,v)]
 | (g,x)::r=>if g=f then (g,v)::r else (g,x)::putF f v r
theorem lookup_putF (f g:Str)(v:V):∀fs:List (Str×V),(putF f v fs).lookup g=if g=f then some v else fs.lookup g
 | []=>by
  show List.lookup g [(f,v)]=_
  by_cases h:g=f
  .have hb:(g==f)=true:=beq_iff_eq.mpr h
   simp only[List.lookup,hb,if_pos h]
  .have hb:(g==f)=false:=beq_eq_false_iff_ne.mpr h
   simp only[List.lookup,hb,if_neg h]
 | (k,x)::r=>by
  have ih:=lookup_putF f g v r
  rw[show putF f v ((k,x)::r)=(if k=f then (k,v)::r else (k,x)::putF f v r) from rfl]
  by_cases hk:k=f
  .rw [if_pos hk]
   by_cases h:g=k
   .have hb:(g==k)=true:=beq_iff_eq.mpr h
    simp only[List.lookup,hb,if_pos (h.trans hk)]
   .have hb:(g==k)=false:=beq_eq_false_iff_ne.mpr h
    simp only[List.lookup,hb,if_neg (λe:g=f=>h (e.trans hk.symm))]
  .rw [if_neg hk]
   by_cases h:g=k
   .have hb:(g==k)=true:=beq_iff_eq.mpr h
    simp only[List.lookup,hb,if_neg (λe:g=f=>hk (h.symm.trans e))]
   .have hb:(g==k)=false:=beq_eq_false_iff_ne.mpr h
    simp only[List.lookup,hb]
    exact ih
theorem keys_putF (f:Str)(v:V):∀fs:List (Str×V),f∈(putF f v fs).map (·.1)/\∀g,g∈fs.map (·.1)->g∈(putF f v fs).map (·.1)
 | []=>⟨by simp[putF],λg h=>by simp at h⟩
 | (k,x)::r=>by
  obtain⟨i1,i2⟩:=keys_putF f v r
  rw[show putF f v ((k,x)::r)=(if k=f then (k,v)::r else (k,x)::putF f v r) from rfl]
  by_cases hk:k=f
  .subst hk
   exact⟨by simp,λg h=>by simpa using h⟩
  .rw [if_neg hk]
   refine⟨?_,λg h=>?_⟩
   .exact List.mem_cons_of_mem _ i1
   .rcases List.mem_cons.mp h with e |e
    .exact List.mem_cons.mpr (.inl e)
    .exact List.mem_cons_of_mem _ (i2 g e)
theorem length_putF (f:Str)(v:V):∀fs:List (Str×V),(putF f v fs).length<=fs.length+1
 | []=>by simp[putF]
 | (k,x)::r=>by
  have ih:=length_putF f v r
  rw[show putF f v ((k,x)::r)=(if k=f then (k,v)::r else (k,x)::putF f v r) from rfl]
  by_cases hk:k=f
  .rw [if_pos hk,List.length_cons,List.length_cons];lia
  .rw [if_neg hk,List.length_cons,List.length_cons];lia
theorem RelO.some_of {v:V}{o:Option Value}(r:RelO (some v) o):∃u,o=some u/\RelV v u:=by
 cases o with
 |none=>exact (show False from r).elim
 |some u=>exact⟨u,rfl,r⟩
theorem RelO.none_of {o:Option Value}(r:RelO none o):o=none:=by
 cases o with
 |none=>rfl
 |some u=>exact (show False from r).elim
theorem handed_of {v:V}{u:Value}(r:RelV v u):PySem.W.handedIn u=true:=by
 cases v with
 |non=>cases (show u=Value.none from r);rfl
 |bl b=>cases (show u=Value.bool b from r);rfl
 |int i=>obtain⟨t,e⟩:=(show ∃t,u=Value.int i t from r);cases e;rfl
 |str x=>obtain⟨t,e⟩:=(show ∃t,u=Value.str x t from r);cases e;rfl
 |byt b=>obtain⟨t,e⟩:=(show ∃t,u=Value.bytes b t from r);cases e;rfl
 |flt b=>obtain⟨t,e⟩:=(show ∃t,u=Value.float b t from r);cases e;rfl
 |ref a=>cases (show u=Value.ref a from r);rfl
 |ty n=>cases (show u=Value.type n from r);rfl
section
variable {P:Program}{w:World}{H H':Hp}{h h':Heap}{a C dx:Addr}{fs fs':List (Str×V)}
theorem ins_get (hok:HOk P w H h)(e:H a=some (.ins C dx fs)):∃mA,ObjM h a dx C mA/\(∀f,RelO (fs.lookup f) (mA f))/\PySem.Within mA (fs.map (·.1))/\fs.length<=1000/\H dx=some (.own a):=by
 obtain⟨d,z,ne,ob,mA,n,r,q⟩:=(show ObjOk P w H h a (.ins C dx fs) from hok a _ e)
 exact⟨mA,⟨ob,n,ne⟩,r,q,z,d⟩
end
structure Cls (K:Frag) (C:Addr):Prop where
 pg:PySem.W.plainGet K C Str.empty=true
 hd:PySem.W.hasDictIn K C=true
 po:PySem.W.plainOver K C=true
 sa:PySem.W.findIn K (.ref C) "__setattr__"=some (some (.builtin "object.__setattr__"))
theorem Cls.get {K:Frag}{C:Addr}(c:Cls K C)(f:Str):PySem.W.plainGet K C f=true:=c.pg
def NoAttr (K:Frag)(C:Addr)(f:Str):Prop:=PySem.W.findIn K (.ref C) f=some none
theorem NoAttr.taker {K:Frag}{C:Addr}{f:Str}(n:NoAttr K C f):PySem.W.takerIn K C f=some none:=by
 unfold PySem.W.takerIn
 rw[show PySem.W.findIn K (.ref C) f=some none from n]
 rfl
structure Meth (K:Frag) (C:Addr) (m:Str) (f:Addr):Prop where
 at_:PySem.W.findIn K (.ref C) m=some (some (.ref f))
 fn:PySem.W.isFn K (.ref f)=true
 kp:PySem.W.keepIn K (.ref f)=true
section
variable {X:Cx}{pins:List (Addr×Obj)}{Y:St}{H:Hp}{s:Shared}{a C dx:Addr}{fs:List (Str×V)}{f:Str}{v:V}{A:Around}{E:Value->Shared->Prop}
theorem getattr_ok {b:Bool}{Q:Value->Shared->Prop}(I:Inv X pins Y H s)(e:H a=some (.ins C dx fs))(c:Cls X.K C)(n:NoAttr X.K C f)(l:fs.lookup f=some v)
  (h:∀u s',Inv X pins Y H s'->RelV v u->Q u s'):wpAny (model X.prog X.w) A (getAttr (.ref a) f b) Q E s:=by
 obtain⟨mA,O,r,_,_,_⟩:=ins_get I.hok e
 obtain⟨u,hu,ru⟩:=RelO.some_of (o:=mA f) (by rw[<- l];exact r f)
 exact get_map I.kIn O (c.get f) c.hd n hu (handed_of ru) (h u _ (I.tok _) ru)
theorem getmeth_ok {m:Str}{g:Addr}{pl:Sem Bool}{Q:Value×List Value->Shared->Prop}(I:Inv X pins Y H s)(e:H a=some (.ins C dx fs))(c:Cls X.K C)(k:Meth X.K C m g)(l:fs.lookup m=none)
  (h:Q (.ref g,[.ref a]) s):wpAny (model X.prog X.w) A (getMethod (.ref a) m pl) Q E s:=by
 obtain⟨mA,O,r,_,_,_⟩:=ins_get I.hok e
 have hn:mA m=none:=RelO.none_of (by rw[<- l];exact r m)
 exact get_meth I.kIn O (c.get m) k.at_ k.fn hn h
theorem setattr_ok {y:V}{u:Value}{Q:Unit->Shared->Prop}(I:Inv X pins Y H s)(e:H a=some (.ins C dx fs))(c:Cls X.K C)(n:NoAttr X.K C f)(hl:fs.length<1000)(ry:RelV y u)
  (h:∀s',Inv X pins Y (upd H a (.ins C dx (putF f y fs))) s'->Q () s'):wpAny (model X.prog X.w) A (setAttr (.ref a) f u) Q E s:=by
 obtain⟨mA,O,r,wi,_,ho⟩:=ins_get I.hok e
 have hz:(fs.map (·.1)).length<=sizeLine:=by rw[List.length_map,sizeLine_eq];lia
 refine set_map I.kIn O c.sa c.po n.taker c.hd wi hz λh' O' sb=>h _ ?_
 have hd:∃o,h'.get? dx=some o:=let⟨o,_,_,e',_⟩:=O'.ns;⟨o,e'⟩
 refine I.write (by rw[e];exact True.intro) (.inr ho) (λb q hb z=>(sb.2 b hb).trans z) hd ?_
 refine⟨by rw[upd_ne O.ne];exact ho,?_,O.ne,O'.obj,_,O'.ns,λg=>?_,λg hg=>?_⟩
 .have:=length_putF f y fs;lia
 .rw [lookup_putF]
  by_cases q:g=f
  .rw [if_pos q,if_pos q];exact ry
  .rw [if_neg q,if_neg q];exact r g
 .by_cases q:g=f
  .rw [q];exact (keys_putF f y fs).1
  .refine (keys_putF f y fs).2 g (wi g λz=>hg ?_)
   show (if g=f then some u else mA g)=none
   rw[if_neg q];exact z
theorem Inv.made (I:Inv X pins Y H s):Inv X pins Y (upd (upd H s.heap.objs.size (.own (s.heap.objs.size+1))) (s.heap.objs.size+1) (.ins C s.heap.objs.size []))
  {s with heap:=(s.heap.push PySem.W.emptyDict).push (PySem.W.instObj C s.heap.objs.size)}:=by
 have e1:(s.heap.push PySem.W.emptyDict).get? s.heap.objs.size=some PySem.W.emptyDict:=Heap.get?_push_size s.heap rfl
 have e2:((s.heap.push PySem.W.emptyDict).push (PySem.W.instObj C s.heap.objs.size)).get? (s.heap.objs.size+1)=some (PySem.W.instObj C s.heap.objs.size):=by
  have:=Heap.get?_push_size (s.heap.push PySem.W.emptyDict) (o:=PySem.W.instObj C s.heap.objs.size) rfl
  rwa[Heap.size_push]at this
 have e3:(s.heap.push PySem.W.emptyDict).Ns s.heap.objs.size (λ_=>none):=⟨PySem.W.emptyDict,#[],_,e1,rfl,(λe he=>absurd he (by simp)),λ_=>rfl⟩
 have I1:=I.laid (o:=.own (s.heap.objs.size+1)) (h':=s.heap.push PySem.W.emptyDict) (t':=s.toks) (λb u q=>Heap.get?_push_of_some _ q) (Nat.le_refl _) ⟨_,e1⟩
 refine I1.laid (a:=s.heap.objs.size+1) (o:=.ins C s.heap.objs.size []) (t':=s.toks) (λb u q=>Heap.get?_push_of_some _ q) (Nat.le_of_eq (Heap.size_push _ _)) ?_
 have ne:s.heap.objs.size≠s.heap.objs.size+1:=Nat.ne_of_lt (Nat.lt_succ_self _)
 refine⟨by rw[upd_ne ne,Xa0],Nat.zero_le _,ne,e2,λ_=>none,(Heap.Ns1.of_empty e3).at λo q=>Heap.get?_push_of_some _ q,λ_=>True.intro,λy hy=>absurd rfl hy⟩
theorem attr_of {prog:Program}{w:World}{env:Env}{e:Expr}{f:Str}{pos:Pos}{s:Shared}{Q:Value->Shared->Prop}(hb:attributeBase e f env (eval e env)=eval e env)
  (h:wpAny (model prog w) A (eval e env) (λo s₁=>wpAny (model prog w) A (getAttr o f true) Q E s₁) E s):wpAny (model prog w) A (eval (.Attribute e f pos) env) Q E s:=
 Attribute_any_ h (by rw[arm_eval_Attribute,hb])
end
def tFld (K:Frag)(ta:TE)(f:Str):TE:=λY H Q=>ta Y H λx H1=>∃a C dx fs v,x = .ref a/\H1 a=some (.ins C dx fs)/\Cls K C/\NoAttr K C f/\fs.lookup f=some v/\Q v H1
def sFld (K:Frag)(ta tv:TE)(f:Str):TS:=λD Y H=>tv Y H λy H1=>ta Y H1 λx H2=>∃a C dx fs,x = .ref a/\H2 a=some (.ins C dx fs)/\Cls K C/\NoAttr K C f/\fs.length<1000/\
 D.nx Y (upd H2 a (.ins C dx (putF f y fs)))
def InOp (X:Cx)(op:Operator)(rd:V->V->Hp->VK->Prop):Prop:=
 ∀(pins:List (Addr×Obj)) (s:Shared) (Y:St) (H:Hp) (x y:V) (u v:Value) (Q:VK),Inv X pins Y H s->RelV x u->RelV y v->rd x y H Q->wpAny (model X.prog X.w) X.A (inplaceOp op u v) (EP X pins Y Q) X.xe s
def sFldAug (K:Frag)(ta tv:TE)(rd:V->V->Hp->VK->Prop)(f:Str):TS:=λD Y H=>ta Y H λx H1=>∃a C dx fs v,x = .ref a/\H1 a=some (.ins C dx fs)/\Cls K C/\NoAttr K C f/\fs.lookup f=some v/\
 tv Y H1 λy H2=>rd v y H2 λz H3=>∃dx' fs',H3 a=some (.ins C dx' fs')/\fs'.length<1000/\D.nx Y (upd H3 a (.ins C dx' (putF f z fs')))
section
variable {X:Cx}{o e value:Expr}{f:Str}{pos pos' tpos:Pos}{ta tv:TE}
theorem pe_fld (he:PE X e ta)(hb:attributeBase e f X.env (eval e X.env)=eval e X.env):PE X (.Attribute e f pos) (tFld X.K ta f):=by
 intro pins s Y H Q I h
 refine attr_of hb (thn (he pins s Y H _ I h) λu s1 ⟨x,H1,I1,rx,a,C,dx,fs,v,ex,ea,c,n,l,q⟩=>?_)
 subst ex
 obtain rfl:u=Value.ref a:=rx
 exact getattr_ok I1 ea c n l λu' s2 I2 ru=>⟨v,H1,I2,ru,q⟩
theorem ps_fld (ha:PE X o ta)(hv:PE X value tv)(hs:swapsWith value (some (.Attribute o f pos')) pos.line X.env=pure false):PS X (.Assign [.Attribute o f pos'] value pos) (sFld X.K ta tv f):=by
 intro pins s Y H D I h
 refine plainObj_wpAny_Assign_Attribute (thn (hv pins s Y H _ I h) λu s1 ⟨y,H1,I1,ry,q⟩=>thn (ha pins s1 Y H1 _ I1 q) λov s2 ⟨x,H2,I2,rx,a,C,dx,fs,ex,ea,c,n,l,q2⟩=>?_) hs
 subst ex
 obtain rfl:ov=Value.ref a:=rx
 exact setattr_ok I2 ea c n l ry λs3 I3=>⟨Y,_,I3,q2⟩
theorem ps_fldaug {op:Operator}{rd:V->V->Hp->VK->Prop}(ha:PE X o ta)(hv:PE X value tv)(hop:InOp X op rd):PS X (.AugAssign (.Attribute o f tpos) op value pos) (sFldAug X.K ta tv rd f):=by
 intro pins s Y H D I h
 refine wpAny_AugAssign_AttributeAny (thn (ha pins s Y H _ I h) λov s1 ⟨x,H1,I1,rx,a,C,dx,fs,v,ex,ea,c,n,l,q⟩=>?_)
 subst ex
 obtain rfl:ov=Value.ref a:=rx
 refine getattr_ok I1 ea c n l λu s2 I2 ru=>thn (hv pins s2 Y H1 _ I2 q) λw3 s3 ⟨y,H2,I3,ry,q3⟩=>thn (hop pins s3 Y H2 v y u w3 _ I3 ru ry q3) λw4 s4 ⟨z,H3,I4,rz,dx',fs',ea',l',q4⟩=>?_
 exact setattr_ok I4 ea' c n l' rz λs5 I5=>⟨Y,_,I5,q4⟩
def rAdd:V->V->Hp->VK->Prop:=λx y H Q=>∃i j,x = .int i/\y = .int j/\Q (.int (i+j)) H
def rSub:V->V->Hp->VK->Prop:=λx y H Q=>∃i j,x = .int i/\y = .int j/\Q (.int (i-j)) H
theorem in_add:InOp X .Add rAdd:=by
 rintro pins s Y H x y u v Q I rx ry ⟨i,j,rfl,rfl,q⟩
 obtain⟨t,rfl⟩:=(show ∃t,u=Value.int i t from rx)
 obtain⟨t',rfl⟩:=(show ∃t',v=Value.int j t' from ry)
 exact PyProof.Rows.iadd_int ⟨.int (i+j),H,I.tok _,⟨_,rfl⟩,q⟩
theorem in_sub:InOp X .Sub rSub:=by
 rintro pins s Y H x y u v Q I rx ry ⟨i,j,rfl,rfl,q⟩
 obtain⟨t,rfl⟩:=(show ∃t,u=Value.int i t from rx)
 obtain⟨t',rfl⟩:=(show ∃t',v=Value.int j t' from ry)
 exact PyProof.Rows.isub_int ⟨.int (i-j),H,I.tok _,⟨_,rfl⟩,q⟩
end
section
variable {X:Cx}{pins:List (Addr×Obj)}{Y:St}{H:Hp}{s:Shared}{A:Around}{E:Value->Shared->Prop}{Q:Value->Shared->Prop}{c:Value}{b:Bool}
inductive TyOf (K:Frag) (H:Hp):V->Value->Prop where
 |non:TyOf K H .non (.type "NoneType")
 |bl (x:Bool):TyOf K H (.bl x) (.type "bool")
 |int (i:Int):TyOf K H (.int i) (.type "int")
 |str (x:Str):TyOf K H (.str x) (.type "str")
 |flt (x:UInt64):TyOf K H (.flt x) (.type "float")
 |lst {a:Addr} {xs:List V} (e:H a=some (.lst xs)):TyOf K H (.ref a) (.type "list")
 |frz {a:Addr} {o:Obj} {xs:List V} (e:H a=some (.frz o (.lst xs))):TyOf K H (.ref a) (.type "list")
 |tup {a:Addr} {xs:List V} (e:H a=some (.tup xs)):TyOf K H (.ref a) (.type "tuple")
 |dK {a:Addr} {kvs:List (Key×V)} (e:H a=some (.dK kvs)):TyOf K H (.ref a) (.type "dict")
 |dT {a:Addr} {kvs:List (List Key×V)} (e:H a=some (.dT kvs)):TyOf K H (.ref a) (.type "dict")
 |ins {a C dx:Addr} {fs:List (Str×V)} (e:H a=some (.ins C dx fs)) (cl:Cls K C) (ha:PySem.W.findIn K (.ref C) "__class__"=some (some (.builtin "object.__class__")))
   (hn:PySem.W.specialIn K (.builtin "object.__class__") "__get__"=some (some (.builtin "getset_descriptor.__get__"))) (htk:PySem.W.takesIn K (.builtin "object.__class__")=some true)
   (hm:PySem.W.mroIn K C (.type "object")=some true):TyOf K H (.ref a) (.ref C)
theorem isinst_ok {x:V}{u t:Value}(I:Inv X pins Y H s)(rx:RelV x u)(ty:TyOf X.K H x t)(e:PySem.W.kitOne X.K t c=some b)(h:∀tk,Q (.bool b) {s with toks:=tk}):
  wpAny (model X.prog X.w) A (call (.builtin "isinstance") [u,c]) Q E s:=by
 cases ty with
 |non=>cases (show u=Value.none from rx);exact PySem.W.kia_one PySem.W.kitx_none I.kIn True.intro e (λz=>nomatch z) h
 |bl y=>cases (show u=Value.bool y from rx);exact PySem.W.kia_one PySem.W.kitx_bool I.kIn True.intro e (λz=>nomatch z) h
 |int i=>obtain⟨t,q⟩:=(show ∃t,u=Value.int i t from rx);cases q;exact PySem.W.kia_one PySem.W.kitx_int I.kIn True.intro e (λz=>nomatch z) h
 |str y=>obtain⟨t,q⟩:=(show ∃t,u=Value.str y t from rx);cases q;exact PySem.W.kia_one PySem.W.kitx_str I.kIn True.intro e (λz=>nomatch z) h
 |flt y=>obtain⟨t,q⟩:=(show ∃t,u=Value.float y t from rx);cases q;exact PySem.W.kia_one PySem.W.kitx_float I.kIn True.intro e (λz=>nomatch z) h
 | @lst a xs ea=>
  cases (show u=Value.ref a from rx)
  obtain⟨_,_,n,_,h1⟩:=(show ObjOk X.prog X.w H s.heap a (.lst xs) from I.hok a _ ea)
  exact PySem.W.kia_one PySem.W.kitx_list I.kIn ⟨_,h1,rfl⟩ e (λz=>nomatch z) h
 | @frz a ob xs ea=>
  cases (show u=Value.ref a from rx)
  obtain⟨_,_,_,n,_,h1⟩:=(show ObjOk X.prog X.w H s.heap a (.frz ob (.lst xs)) from I.hok a _ ea)
  exact PySem.W.kia_one PySem.W.kitx_list I.kIn ⟨_,h1,rfl⟩ e (λz=>nomatch z) h
 | @tup a xs ea=>
  cases (show u=Value.ref a from rx)
  obtain⟨_,_,_,p⟩:=(show ObjOk X.prog X.w H s.heap a (.tup xs) from I.hok a _ ea)
  obtain⟨o,h1,h2,_⟩:=p
  exact PySem.W.kia_one PySem.W.kitx_tuple I.kIn ⟨o,h1,h2⟩ e (λz=>nomatch z) h
 | @dK a kvs ea=>
  cases (show u=Value.ref a from rx)
  obtain⟨_,_,vs,_,p⟩:=(show ObjOk X.prog X.w H s.heap a (.dK kvs) from I.hok a _ ea)
  obtain⟨o,es,ep,h1,h2,_⟩:=p
  exact PySem.W.kia_one PySem.W.kitx_dict I.kIn ⟨o,h1,h2.1⟩ e (λz=>nomatch z) h
 | @dT a kvs ea=>
  cases (show u=Value.ref a from rx)
  obtain⟨_,_,xs,_,o,es,ep,h1,h2,_⟩:=(show ObjOk X.prog X.w H s.heap a (.dT kvs) from I.hok a _ ea)
  exact PySem.W.kia_one PySem.W.kitx_dict I.kIn ⟨o,h1,h2.1⟩ e (λz=>nomatch z) h
 | @ins a C dx fs ea cl ha hn htk hm=>
  cases (show u=Value.ref a from rx)
  obtain⟨mA,O,_⟩:=ins_get I.hok ea
  obtain⟨od,J,_⟩:=O.look
  exact PySem.W.kia_one (PySem.W.kitx_own (cl.get _) cl.hd ha hn htk hm) I.kIn J e (λz=>nomatch z) h
end
structure Room (k:Nat) (A:Around):Prop where
 hd:A.handled=none
 dp:A.depth+3*k+5<recursionLimit
 un:A.units+16*k+200<cLine
theorem Room.mono {j k:Nat}{A:Around}(r:Room k A)(h:j<=k):Room j A:=⟨r.hd,by have:=r.dp;lia,by have:=r.un;lia⟩
theorem Room.deeper {k:Nat}{A:Around}(r:Room (k+1) A)(env:Env):Room k (A.deeper env):=
 ⟨r.hd,by have:=r.dp;show A.depth+1+3*k+5<_;lia,by have:=r.un;show A.units+3+16*k+200<_;lia⟩
theorem make_depth {A:Around}{C:Addr}{us:List Value}{kw:List (Str×Value)}:(A.under (.builtin "type.__call__" ⟨.ref C::us,kw⟩)).depth=A.depth+1:=by
 first |rfl |simp[ guardIds]
theorem make_units {A:Around}{C:Addr}{us:List Value}{kw:List (Str×Value)}:(A.under (.builtin "type.__call__" ⟨.ref C::us,kw⟩)).units=A.units+1:=by
 first |rfl |simp[ Code.isFrame]
theorem Room.make {k:Nat}{A:Around}(r:Room (k+1) A)(C:Addr)(us:List Value)(kw:List (Str×Value)):Room k (A.under (.builtin "type.__call__" ⟨.ref C::us,kw⟩)):=
 ⟨r.hd,by have:=r.dp;rw[make_depth];lia,by have:=r.un;rw[make_units];lia⟩
theorem Room.depth {k:Nat}{A:Around}(r:Room k A):A.depth<recursionLimit:=by have:=r.dp;lia
def tNil:TA:=λ_ H Q=>Q [] H
def tCons (ta:TE)(tr:TA):TA:=λY H Q=>ta Y H λx H1=>tr Y H1 λxs H2=>Q (x::xs) H2
section
variable {X:Cx}{e:Expr}{es:List Expr}{te:TE}{t:TA}{pos:Pos}
theorem Xae:PA X [] tNil:=λ_ _ _ _ H Q I h=>Calls.spliced_nil ⟨[],H,I,.nil,h⟩
theorem Xaa (ha:PE X e te)(hr:PA X es t)(hs:starEach (e::es) X.env=(false,eval e X.env)::starEach es X.env:=by rfl):PA X (e::es) (tCons te t):=by
 intro pos pins s Y H Q I h
 rw[hs]
 refine Calls.spliced_cons (thn (ha pins s Y H _ I h) λu s1 ⟨x,H1,I1,r1,q1⟩=>?_)
 exact thn (hr pos pins s1 Y H1 _ I1 q1) λus s2 ⟨xs,H2,I2,r2,q2⟩=>⟨x::xs,H2,I2,.cons r1 r2,q2⟩
end
abbrev Sp:=List V->Hp->VK->XK->Prop
abbrev CXT:=List Env->Hp->Shared->XK->Value->Shared->Prop
structure Env0 (P:Program) (w:World) (K:Frag) (mg:Str->Option Value) (base:Heap) (A:Around) (outer:List Env) (s:Shared) (H:Hp):Prop where
 frames:A.frames=some outer
 mod:Mod K mg base
 bs:∀b o,base.get? b=some o->s.heap.get? b=some o/\H b=none
 bsz:base.objs.size<=s.heap.objs.size
 funs:s.heap.FunFrames base outer
 frf:∀b∈frs outer,H b=none
 hok:HOk P w H s.heap
 bare:AllBare s.gens
def CE (outer:List Env)(P:Program)(w:World)(H:Hp)(s:Shared)(Q:VK)(u:Value)(s':Shared):Prop:=
 ∃v H',s'.os=s.os/\AllBare s'.gens/\Un (frs outer) [] H H' s.heap s'.heap/\HOk P w H' s'.heap/\RelV v u/\Q v H'
def CR (CX:CXT)(outer:List Env)(P:Program)(w:World)(H:Hp)(s:Shared)(Q:VK)(E:XK)(r:Result)(s':Shared):Prop:=
 match r with
 | .ok (.ret u)=>CE outer P w H s Q u s'
 | .ok _=>False
 | .error e=>CX outer H s E e s'
structure FnOk (P:Program) (w:World) (K:Frag) (mg:Str->Option Value) (base:Heap) (CX:CXT) (k:Nat) (f:Addr) (fd:FuncData) (ps:List Str) (sp:Sp):Prop where
 len:∀vs H Q E,sp vs H Q E->vs.length=ps.length
 run:∀(A:Around) (outer:List Env) (s:Shared) (H:Hp) (args:Args) (us:List Value) (vs:List V) (Q:VK) (E:XK),Room k A->Env0 P w K mg base A outer s H->BindsTo s fd args (ps.zip us)->Vals vs us->sp vs H Q E->
  codeAny (model P w) A (.call (.ref f) args) (CR CX outer P w H s Q E) s
theorem FnOk.mono {P:Program}{w:World}{K:Frag}{mg:Str->Option Value}{base:Heap}{CX:CXT}{j k:Nat}{f:Addr}{fd:FuncData}{ps:List Str}{sp:Sp}(F:FnOk P w K mg base CX j f fd ps sp)(h:j<=k):
  FnOk P w K mg base CX k f fd ps sp:=⟨F.len,λA outer s H args us vs Q E hr=>F.run A outer s H args us vs Q E (hr.mono h)⟩
theorem Env0.make {P:Program}{w:World}{K:Frag}{mg:Str->Option Value}{base:Heap}{A:Around}{outer:List Env}{s:Shared}{H:Hp}(e:Env0 P w K mg base A outer s H)(C:Addr)(us:List Value)(kw:List (Str×Value)):
  Env0 P w K mg base (A.under (.builtin "type.__call__" ⟨.ref C::us,kw⟩)) outer s H:=⟨by first |exact e.frames | (simpa[ pushEnvs] using e.frames),e.mod,e.bs,e.bsz,e.funs,e.frf,e.hok,e.bare⟩
section
variable {X:Cx}{pins:List (Addr×Obj)}{Y:St}{H:Hp}{s s':Shared}
theorem Inv.env0 (I:Inv X pins Y H s):Env0 X.prog X.w X.K X.mg X.base X.A X.stack s H:=
 ⟨I.ok.frames,I.ok.mod,I.bs,Nat.le_trans I.ok.bsz I.sz,I.stack,I.stkFree,I.hok,I.bare⟩
theorem Inv.after {Q:VK}{u:Value}(I:Inv X pins Y H s)(h:CE X.stack X.prog X.w H s Q u s'):EP X pins Y Q u s':=by
 obtain⟨v,H',os,bare,un,hok,r,q⟩:=h
 obtain⟨hh,g,d,t,os'⟩:=s'
 obtain rfl:os'=s.os:=os
 exact⟨v,H',I.call (h':=hh) (g':=g) (d':=d) (t':=t) (ch:=[]) un hok bare (λb z=>absurd z (by simp)),r,q⟩
end
def tCall (sp:Sp)(dvs:List V)(E:XK)(t:TA):TE:=λY H Q=>t Y H λvs H1=>sp (vs++dvs) H1 Q E
def tMeth (C:Addr)(m:Str)(sp:Sp)(dvs:List V)(E:XK)(ta:TE)(t:TA):TE:=λY H Q=>ta Y H λx H1=>∃a dx fs,x = .ref a/\H1 a=some (.ins C dx fs)/\fs.lookup m=none/\
 t Y H1 λvs H2=>sp (x::(vs++dvs)) H2 Q E
def tMake (C:Addr)(sp:Sp)(dvs:List V)(E:XK)(t:TA):TE:=λY H Q=>t Y H λvs H1=>∀x dx,H1 x=none->H1 dx=none->dx≠x->
 sp (.ref x::(vs++dvs)) (upd (upd H1 dx (.own x)) x (.ins C dx [])) (λv H2=>v = .non/\Q (.ref x) H2) E
def Binds (K:Frag)(fd:FuncData)(ps:List Str)(ds:List Value):Prop:=
 ∀(s:Shared) (us:List Value),K.In s.heap->(us++ds).length=ps.length->BindsTo s fd ⟨us,[]⟩ (ps.zip (us++ds))
theorem Binds.all {K:Frag}{fd:FuncData}{ps:List Str}(h:∀us:List Value,us.length=ps.length->bindArgs fd ⟨us,[]⟩=pure (ps.zip us)):Binds K fd ps []:=λs us _ hl=>by
 rw[List.append_nil]at hl ⊢
 exact .of_eq (h us hl)
def Passes (CX:CXT)(X:Cx)(E:XK):Prop:=∀(pins:List (Addr×Obj)) (Y:St) (H:Hp) (s:Shared) (e:Value) (s':Shared),Inv X pins Y H s->CX X.stack H s E e s'->X.xe e s'
section
variable {X:Cx}{CX:CXT}{k:Nat}{f C:Addr}{fd:FuncData}{ps:List Str}{sp:Sp}{dvs:List V}{ds:List Value}{E:XK}{x m:Str}{p pos apos:Pos}{e o:Expr}{es:List Expr}{ta:TE}{t:TA}
theorem run_fn {pins:List (Addr×Obj)}{Y:St}{H:Hp}{s:Shared}{Q:VK}{us:List Value}{vs:List V}(F:FnOk X.prog X.w X.K X.mg X.base CX k f fd ps sp)(hr:Room k X.A)(hb:Binds X.K fd ps ds)(hd:Vals dvs ds)(hx:Passes CX X E)
  (I:Inv X pins Y H s) (r:Vals vs us) (h:sp (vs++dvs) H Q E):wpAny (model X.prog X.w) X.A (call (.ref f) us) (EP X pins Y Q) X.xe s:=by
 have r2:Vals (vs++dvs) (us++ds):=r.append hd
 have hl:(us++ds).length=ps.length:=by rw[<- r2.length];exact F.len _ _ _ _ h
 refine wpAny_call (codeAny_mono (F.run X.A X.stack s H ⟨us,[]⟩ (us++ds) (vs++dvs) Q E hr I.env0 (hb s us I.kIn hl) r2 h) λr s' hq=>?_)
 cases r with
 |error e=>exact hx pins Y H s e s' I hq
 |ok fl=>
  cases fl with
  |ret u=>exact I.after hq
  |next=>exact False.elim hq
  |brk=>exact False.elim hq
  |cont=>exact False.elim hq
theorem pe_call (F:FnOk X.prog X.w X.K X.mg X.base CX k f fd ps sp)(hr:Room k X.A)(hg:Gl X x)(hm:X.mg x=some (.ref f))(hk:PySem.W.keepIn X.K (.ref f)=true)(hb:Binds X.K fd ps ds)(hd:Vals dvs ds)(hx:Passes CX X E)
  (ha:PA X (e::es) t) (hdb:(x==("__debug__":Str))=false:=by decide) (he:starEach (e::es) X.env=(false,eval e X.env)::starEach es X.env:=by rfl) (hpl:(backTo pos (starEach es X.env)).any (·.1)=false:=by rfl):
  PE X (.Call (.Name x p) (e::es) [] pos) (tCall sp dvs E t):=by
 intro pins s Y H Q I h
 refine wpAny_Call_Name_kw (ld_glob I hg hm ?_ hdb)
 refine PySem.W.callWith_K I.ok.mod.kin hk (thn (ha pos pins s Y H _ I h) λus s1 ⟨vs,H1,I1,r,q⟩=>⟨I1.kIn,?_⟩) he hpl
 exact run_fn F hr hb hd hx I1 r q
theorem pe_meth {pl:Sem Bool}(he:PE X o ta)(c:Cls X.K C)(hm:Meth X.K C m f)(F:FnOk X.prog X.w X.K X.mg X.base CX k f fd ps sp)(hr:Room k X.A)(hb:Binds X.K fd ps ds)(hd:Vals dvs ds)(hx:Passes CX X E)(ha:PA X (e::es) t)
  (hst:starEach (e::es) X.env=(false,eval e X.env)::starEach es X.env:=by rfl) (hpl:(backTo pos (starEach es X.env)).any (·.1)=false:=by rfl)
  (ht:eval (.Call (.Attribute o m apos) (e::es) [] pos) X.env=(do
   let ov <- eval o X.env
   standAt apos.atName
   let (f,first) <- holding [ov] (getMethod ov m pl)
   callWith pos f first (backTo pos (starEach (e::es) X.env)) (backToKw pos (keywordEach [] X.env))):=by rfl):
  PE X (.Call (.Attribute o m apos) (e::es) [] pos) (tMeth C m sp dvs E ta t):=by
 intro pins s Y H Q I h
 refine PySem.W.methodCall_KW (thn (he pins s Y H _ I h) λu s1 ⟨x,H1,I1,rx,a,dx,fs,ex,ea,l,q⟩=>?_) ht
 subst ex
 obtain rfl:u=Value.ref a:=rx
 refine getmeth_ok I1 ea c hm l ?_
 refine PySem.W.callWith_K (first:=[.ref a]) I.ok.mod.kin hm.kp (thn (ha pos pins s1 Y H1 _ I1 q) λus s2 ⟨vs,H2,I2,r,q2⟩=>⟨I2.kIn,?_⟩) hst hpl
 exact run_fn (us:=.ref a::us) (vs:=.ref a::vs) F hr hb hd hx I2 (.cons rfl r) q2
theorem pe_meth0 {pl:Sem Bool}(he:PE X o ta)(c:Cls X.K C)(hm:Meth X.K C m f)(F:FnOk X.prog X.w X.K X.mg X.base CX k f fd ps sp)(hr:Room k X.A)(hb:Binds X.K fd ps ds)(hd:Vals dvs ds)(hx:Passes CX X E)
  (ht:eval (.Call (.Attribute o m apos) [] [] pos) X.env=(do
   let ov <- eval o X.env
   standAt apos.atName
   let (f,first) <- holding [ov] (getMethod ov m pl)
   callWith pos f first (backTo pos (starEach [] X.env)) (backToKw pos (keywordEach [] X.env))):=by rfl):
  PE X (.Call (.Attribute o m apos) [] [] pos) (tMeth C m sp dvs E ta tNil):=by
 intro pins s Y H Q I h
 refine PySem.W.methodCall_KW (thn (he pins s Y H _ I h) λu s1 ⟨x,H1,I1,rx,a,dx,fs,ex,ea,l,q⟩=>?_) ht
 subst ex
 obtain rfl:u=Value.ref a:=rx
 refine getmeth_ok I1 ea c hm l ?_
 exact PySem.W.callWith_K0 (first:=[.ref a]) I1.kIn hm.kp (run_fn (us:=[.ref a]) (vs:=[.ref a]) F hr hb hd hx I1 (.cons rfl .nil) q)
structure Mk (K:Frag) (C f:Addr):Prop where
 makes:PySem.W.makesIn K C=true
 init:PySem.W.findIn K (.ref C) "__init__"=some (some (.ref f))
 fn:PySem.W.isFn K (.ref f)=true
 kp:PySem.W.keepIn K (.ref C)=true
theorem run_make {pins:List (Addr×Obj)}{Y:St}{H:Hp}{s:Shared}{Q:VK}{us:List Value}{vs:List V}(M:Mk X.K C f)(F:FnOk X.prog X.w X.K X.mg X.base CX k f fd ps sp)(hr:Room (k+1) X.A)(hb:Binds X.K fd ps ds)(hd:Vals dvs ds)
  (hx:Passes CX X E) (I:Inv X pins Y H s) (r:Vals vs us)
  (h:∀x dx,H x=none->H dx=none->dx≠x->sp (.ref x::(vs++dvs)) (upd (upd H dx (.own x)) x (.ins C dx [])) (λv H2=>v = .non/\Q (.ref x) H2) E):
  wpAny (model X.prog X.w) X.A (call (.ref C) us) (EP X pins Y Q) X.xe s:=by
 have hq:=h (s.heap.objs.size+1) s.heap.objs.size (I.hok.fresh (Nat.le_succ _)) (I.hok.fresh (Nat.le_refl _)) (Nat.ne_of_lt (Nat.lt_succ_self _))
 have I2:=Inv.made (C:=C) I
 have r2:Vals (V.ref (s.heap.objs.size+1)::(vs++dvs)) (Value.ref (s.heap.objs.size+1)::(us++ds)):=.cons rfl (r.append hd)
 have hl:(Value.ref (s.heap.objs.size+1)::us++ds).length=ps.length:=by
  have e:=r2.length
  rw[F.len _ _ _ _ hq]at e
  exact e.symm
 refine wpAny_call (make_map I.kIn M.makes M.init (beq_iff_eq.mp M.fn) (codeAny_mono (F.run _ X.stack _ _ ⟨Value.ref (s.heap.objs.size+1)::us,[]⟩ (Value.ref (s.heap.objs.size+1)::(us++ds)) _ _ E (hr.make C us [])
  (I2.env0.make C us []) (hb _ (Value.ref (s.heap.objs.size+1)::us) I2.kIn hl) r2 hq) λr s' hq'=>?_))
 cases r with
 |error e=>exact hx pins Y _ _ e s' I2 hq'
 |ok fl=>
  cases fl with
  |ret u=>
   obtain⟨v,H',I3,rv,ev,q3⟩:=I2.after hq'
   subst ev
   exact⟨rv,⟨V.ref (s.heap.objs.size+1),H',I3,rfl,q3⟩⟩
  |next=>exact False.elim hq'
  |brk=>exact False.elim hq'
  |cont=>exact False.elim hq'
theorem pe_make (M:Mk X.K C f)(F:FnOk X.prog X.w X.K X.mg X.base CX k f fd ps sp)(hr:Room (k+1) X.A)(hg:Gl X x)(hm:X.mg x=some (.ref C))(hb:Binds X.K fd ps ds)(hd:Vals dvs ds)(hx:Passes CX X E)
  (ha:PA X (e::es) t) (hdb:(x==("__debug__":Str))=false:=by decide) (he:starEach (e::es) X.env=(false,eval e X.env)::starEach es X.env:=by rfl) (hpl:(backTo pos (starEach es X.env)).any (·.1)=false:=by rfl):
  PE X (.Call (.Name x p) (e::es) [] pos) (tMake C sp dvs E t):=by
 intro pins s Y H Q I h
 refine wpAny_Call_Name_kw (ld_glob I hg hm ?_ hdb)
 refine PySem.W.callWith_K I.ok.mod.kin M.kp (thn (ha pos pins s Y H _ I h) λus s1 ⟨vs,H1,I1,r,q⟩=>⟨I1.kIn,?_⟩) he hpl
 exact run_make M F hr hb hd hx I1 r q
end
section
variable {X:Cx}{CX:CXT}{k:Nat}{f C:Addr}{fd:FuncData}{ps ks:List Str}{sp:Sp}{E:XK}{x m:Str}{p pos apos kpos:Pos}{e o:Expr}{es:List Expr}{kws:List Keyword}{te ta:TE}{t tk:TA}{nm:Option Str}
variable {g:List Value->List Value->List Value}{gV:List V->List V->List V}
end
structure FnScope (N P:List Str) (sc:Scope):Prop where
 kind:sc.kind = .function
 co:sc.isCoroutine=false
 gen:sc.isGenerator=false
 nd:N.Nodup
 pre:N.take P.length=P
 par:∀x∈P,sc.names.lookup x=some .local∨sc.names.lookup x=some .cell
 nofree:∀y∈sc.names,y.2≠.free
theorem bindL_out {kindOf:Str->Option NameKind}{x:Str}:∀{binds:List (Str×Value)} {m:Str->Option Value},(∀v,(x,v)∉binds)->bindL kindOf binds m x=m x
 | [],_,_=>rfl
 | (n,v)::r,m,h=>by
  unfold bindL
  rw[bindL_out λw hw=>h w (List.mem_cons_of_mem _ hw)]
  split
  .have:x≠n:=by rintro rfl;exact h v List.mem_cons_self
   simp[this]
  .rfl
theorem bindC_out {kindOf:Str->Option NameKind}{x:Str}:∀{binds:List (Str×Value)} {m:Str->Option Value},(∀v,(x,v)∉binds)->bindC kindOf binds m x=m x
 | [],_,_=>rfl
 | (n,v)::r,m,h=>by
  unfold bindC
  rw[bindC_out λw hw=>h w (List.mem_cons_of_mem _ hw)]
  split
  .rfl
  .have:x≠n:=by rintro rfl;exact h v List.mem_cons_self
   simp[this]
theorem bindL_get {kindOf:Str->Option NameKind}{x:Str}{v:Value}:∀{P:List Str} {vs:List Value} {i:Nat} {m:Str->Option Value},P.Nodup->P[i]?=some x->vs[i]?=some v->kindOf x=some .local->
  bindL kindOf (P.zip vs) m x=some v
 | [],_,_,_,_,h,_,_=>by simp at h
 |_::_,[],_,_,_,_,h,_=>by simp at h
 |p::P,w::vs,0,m,nd,h1,h2,hk=>by
  simp at h1 h2;subst h1;subst h2
  show bindL kindOf ((p,w)::P.zip vs) m p=_
  unfold bindL
  rw[bindL_out λv hv=>(List.nodup_cons.mp nd).1 (List.of_mem_zip hv).1,if_pos hk]
  simp
 |p::P,w::vs,i+1,m,nd,h1,h2,hk=>by
  unfold bindL
  exact bindL_get (List.nodup_cons.mp nd).2 h1 h2 hk
theorem bindC_get {kindOf:Str->Option NameKind}{x:Str}{v:Value}:∀{P:List Str} {vs:List Value} {i:Nat} {m:Str->Option Value},P.Nodup->P[i]?=some x->vs[i]?=some v->kindOf x≠some .local->
  bindC kindOf (P.zip vs) m x=some v
 | [],_,_,_,_,h,_,_=>by simp at h
 |_::_,[],_,_,_,_,h,_=>by simp at h
 |p::P,w::vs,0,m,nd,h1,h2,hk=>by
  simp at h1 h2;subst h1;subst h2
  show bindC kindOf ((p,w)::P.zip vs) m p=_
  unfold bindC
  rw[bindC_out λv hv=>(List.nodup_cons.mp nd).1 (List.of_mem_zip hv).1,if_neg hk]
  simp
 |p::P,w::vs,i+1,m,nd,h1,h2,hk=>by
  unfold bindC
  exact bindC_get (List.nodup_cons.mp nd).2 h1 h2 hk
def start (N:List Str)(vs:List V):St:=vs.map some++List.replicate (N.length-vs.length) none
def cxOf (CX:CXT)(P:Program)(w:World)(K:Frag)(mg:Str->Option Value)(base:Heap)(N:List Str)(qual:Str)(scope:Scope)(f:Addr)(cd:Value)(A:Around)(outer:List Env)(s:Shared)(H:Hp)(E:XK):Cx where
 prog:=P
 w:=w
 K:=K
 mg:=mg
 base:=base
 A:=A.deeper (envOfC qual scope s.heap.objs.size f cd)
 N:=N
 s₀:=s
 H₀:=H
 env:=envOfC qual scope s.heap.objs.size f cd
 outer:=outer
 stack:=envOfC qual scope s.heap.objs.size f cd::outer
 ex:=[]
 calm:=true
 fn:=λ_=>true
 pn:=[]
 xe:=λe s'=>wpAny (model P w) (A.deeper (envOfC qual scope s.heap.objs.size f cd)) (leaving (envOfC qual scope s.heap.objs.size f cd) e) (λ_ s''=>CX outer H s E e s'') (λe' s''=>CX outer H s E e' s'') s'
theorem cell_has {sc:Scope}{n:Nat}{x:Str}(h:sc.names.lookup x=some .cell):∃c,(cellsFrom n sc.names []).lookup x=some c:=by
 have q:=PySem.W.cellsFrom_some sc.names n [] (.inl h)
 exact Option.isSome_iff_exists.mp q
theorem inv_start {CX:CXT}{P:Program}{w:World}{K:Frag}{mg:Str->Option Value}{base:Heap}{N ps:List Str}{qual:Str}{scope:Scope}{f:Addr}{cd:Value}{A:Around}{outer:List Env}{s s1:Shared}{H:Hp}{E:XK}{us:List Value}{vs:List V}
  (S:FnScope N ps scope) (hd:A.handled=none) (e0:Env0 P w K mg base A outer s H) (hl:vs.length=ps.length) (r:Vals vs us)
  (x:InCallC s s.heap.objs.size (bindL (envOfC qual scope s.heap.objs.size f cd).kindOf (ps.zip us) λ_=>none) (cellsFrom (s.heap.objs.size+1) scope.names []) (bindC (envOfC qual scope s.heap.objs.size f cd).kindOf (ps.zip us) λ_=>none) s1):
  Inv (cxOf CX P w K mg base N qual scope f cd A outer s H E) [] (start N vs) H s1:=by
 have hpl:ps.length<=N.length:=by have:=congrArg List.length S.pre;rw[List.length_take]at this;lia
 obtain⟨h1,tk,rfl,hk⟩:=x.done
 have noA:∀b:Addr,b∉(cxOf CX P w K mg base N qual scope f cd A outer s H E).ex:=λb z=>absurd (show b∈([]:List Addr) from z) (by simp)
 refine⟨⟨e0.mod,S.kind,rfl,rfl,Nat.le_refl _,λy z c h1 h2=>?_,λy hy=>?_,λy c _ h=>?_,λ_=>hd,Around.frames_deeper e0.frames,.inr ⟨rfl,rfl⟩,λb z=>absurd z (noA b),e0.bs,e0.bsz,λb _ _=>noA b,λb z=>absurd z (noA b),e0.funs,e0.frf⟩,
  rfl,e0.bare,Un.kept hk,⟨_,x.toInCall.ns,λi y v h1 h2 h3=>?_⟩,λy c h=>⟨_,x.cell y c h⟩,e0.hok.fresh (Nat.le_refl _),λy c h=>?_,λp hp=>absurd (show p∈([]:List (Addr×Obj)) from hp) (by simp),e0.hok.kept hk,?_⟩
 .exact name_of_addr x.apart (PySem.mem_of_lookup h1) (PySem.mem_of_lookup h2)
 .rcases hy with hy |hy
  .exact cell_has hy
  .exact absurd rfl (S.nofree _ (PySem.mem_of_lookup hy))
 .exact Nat.le_of_lt (x.above y c (PySem.mem_of_lookup h))
 .have hi:i<vs.length:=by
   unfold start at h2
   by_cases hi:i<vs.length
   .exact hi
   .rw [List.getElem?_append_right (by simpa using hi)]at h2
    rw[List.getElem?_replicate]at h2
    split at h2<;>cases h2
  have ha:vs[i]?=some v:=by
   unfold start at h2
   rw[List.getElem?_append_left (by simpa using hi),List.getElem?_map]at h2
   cases e:vs[i]? with
   |none=>rw[e]at h2;cases h2
   |some a=>rw[e]at h2;cases h2;rfl
  obtain⟨u,hu,rv⟩:=r.get ha
  have hp:ps[i]?=some y:=by
   rw[<- S.pre,List.getElem?_take_of_lt (by lia)];exact h1
  have ndP:ps.Nodup:=by rw[<- S.pre];exact S.nd.sublist (List.take_sublist _ _)
  refine⟨u,rv,?_⟩
  rcases S.par y (List.mem_of_getElem? hp) with k |k
  .exact .inl ⟨k,bindL_get ndP hp hu k⟩
  .obtain ⟨c,e⟩:=cell_has (n:=s.heap.objs.size+1) k
   refine .inr ⟨.inl k,c,e,?_⟩
   have q:=x.cell y c e
   rw[bindC_get ndP hp hu (by show scope.names.lookup y≠_;rw[k];decide)]at q
   exact q
 .exact e0.hok.fresh (Nat.le_of_lt (x.above y c (PySem.mem_of_lookup h)))
 .unfold start
  show _=N.length
  rw[List.length_append,List.length_map,List.length_replicate]
  lia
theorem fn_of {CX:CXT}{P:Program}{w:World}{K:Frag}{mg:Str->Option Value}{base:Heap}{k:Nat}{f:Addr}{name qual:Str}{params:Arguments}{body:List Stmt}{scope:Scope}{dV kV doc pm cdv ct oc:Value}{an od:Option Addr}
  {osl:Array (Option Value)} {N ps:List Str} {sp:Sp} (lk:K.lookup f=some ⟨oc,od,.func (PySem.W.fnOf name qual params body scope dV kV doc pm an cdv ct),osl⟩) (hcd:PySem.W.codeIn K cdv qual=true) (S:FnScope N ps scope)
  (len:∀vs H Q E,sp vs H Q E->vs.length=ps.length)
  (hbody:∀(A:Around) (outer:List Env) (s:Shared) (H:Hp) (vs:List V) (Q:VK) (E:XK),Room k (A.deeper (envOfC qual scope s.heap.objs.size f cdv))->sp vs H Q E->
   ∃t,PSs (cxOf CX P w K mg base N qual scope f cdv A outer s H E) body t/\t {nx:=λ_ H'=>Q .non H',rt:=Q} (start N vs) H):
  FnOk P w K mg base CX (k+1) f (PySem.W.fnOf name qual params body scope dV kV doc pm an cdv ct) ps sp:=by
 refine⟨len,λA outer s H args us vs Q E hr e0 hb r hsp=>?_⟩
 have hl:=len _ _ _ _ hsp
 have KX:K.In s.heap:=e0.mod.kin.keeps λb o e=>(e0.bs b o e).1
 have lim:s.heap.NoLimit:=e0.mod.nolimit.keeps λb o e=>(e0.bs b o e).1
 have hkind:∀y∈ps.zip us,scope.names.lookup y.1=some .local∨(scope.names.lookup y.1=some .cell/\((cellsFrom (s.heap.objs.size+1) scope.names []).lookup y.1).isSome=true):=λ⟨n,v⟩ hy=>by
  rcases S.par n (List.of_mem_zip hy).1 with q |q
  .exact .inl q
  .exact .inr ⟨q,PySem.W.cellsFrom_some _ _ _ (.inl q)⟩
 refine codeAny_call_function hr.depth (KX _ _ lk) rfl S.co S.gen rfl (PySem.W.codeRec_of KX hcd) (hb _ _ _ _ ?_)
 refine wpAny_newFunctionEnv_cells S.kind hkind λenv he s1 x=>?_
 subst he
 refine⟨lim.keeps x.toInCall.keep,codeAny_func ?_⟩
 obtain⟨t,ht,hq⟩:=hbody A outer s H vs Q E (hr.deeper _) hsp
 have I:Inv (cxOf CX P w K mg base N qual scope f cdv A outer s H E) [] (start N vs) H s1:=inv_start S hr.hd e0 hl r x
 refine wpAny_mono (ht [] s1 (start N vs) H _ I hq) (λfl s' hs=>?_) λe s' hs=>hs
 have fin:∀{Y':St} {H':Hp} {v:V} {u:Value},Inv (cxOf CX P w K mg base N qual scope f cdv A outer s H E) [] Y' H' s'->RelV v u->Q v H'->CE outer P w H s Q u s':=
  λ{Y' H' v u} J rv q=>⟨v,H',J.os,J.bare,J.base,J.hok,rv,q⟩
 cases fl with
 |ret u=>
  obtain⟨v,Y',H',J,rv,q⟩:=hs
  exact fin J rv q
 |next=>
  obtain⟨Y',H',J,q⟩:=hs
  exact fin (v:=V.non) J rfl q
 |brk=>
  obtain⟨_,_,_,q⟩:=hs
  exact False.elim q
 |cont=>
  obtain⟨_,_,_,q⟩:=hs
  exact False.elim q
section
variable {X:Cx}{x:Str}{p pos:Pos}{e:Expr}{es:List Expr}{t:TA}{id T:String}{r:List V->Hp->VK->Prop}
def tCB (r:List V->Hp->VK->Prop)(t:TA):TE:=λY H Q=>t Y H λvs H1=>r vs H1 Q
theorem Xaw (hc:CallR X (.builtin id) r)(hg:Gl X x)(hm:X.mg x=none)(hv:bootBuiltins x=some (.builtin id))(ha:PA X (e::es) t)(hn:x ≠ "__name__":=by decide)(hdb:(x==("__debug__":Str))=false:=by decide)
  (he:starEach (e::es) X.env=(false,eval e X.env)::starEach es X.env:=by rfl) (hpl:(backTo pos (starEach es X.env)).any (·.1)=false:=by rfl):PE X (.Call (.Name x p) (e::es) [] pos) (tCB r t):=by
 intro pins s Y H Q I h
 refine wpAny_Call_Name_kw (ld_blt I hg hm hv ?_ hn hdb)
 exact PyProof.Rows.callWith_builtin1 (thn (ha pos pins s Y H _ I h) λus s1 ⟨vs,H1,I1,r1,q1⟩=>hc pins s1 Y H1 vs us Q I1 r1 q1) he hpl
theorem pe_callTy (hc:CallR X (.type T) r)(hg:Gl X x)(hm:X.mg x=none)(hv:bootBuiltins x=some (.type T))(ha:PA X (e::es) t)(hn:x ≠ "__name__":=by decide)(hdb:(x==("__debug__":Str))=false:=by decide)
  (he:starEach (e::es) X.env=(false,eval e X.env)::starEach es X.env:=by rfl) (hpl:(backTo pos (starEach es X.env)).any (·.1)=false:=by rfl):PE X (.Call (.Name x p) (e::es) [] pos) (tCB r t):=by
 intro pins s Y H Q I h
 refine wpAny_Call_Name_kw (ld_blt I hg hm hv ?_ hn hdb)
 exact PyProof.Rows.callWith_type1 (thn (ha pos pins s Y H _ I h) λus s1 ⟨vs,H1,I1,r1,q1⟩=>hc pins s1 Y H1 vs us Q I1 r1 q1) he hpl
end
end L2
namespace HT
open PySem PyProof.Rows
def lexLt:List Int->List Int->Bool
 | [],[]=>false
 | [],_::_=>true
 |_::_,[]=>false
 |x::xs,y::ys=>if x=y then lexLt xs ys else decide (x<y)
theorem lexLt_cons (x y:Int)(xs ys:List Int):lexLt (x::xs) (y::ys)=if x=y then lexLt xs ys else decide (x<y):=rfl
section
open PySem.SeqAt
open PySem.AutoSeq1 (wpAny_loadPart')
open PySem.MeetsSeq PySem.MeetsSeq2 PySem.MeetsSeq3
end
section
variable {prog:Program}{w:World}{A:Around}{E:Value->Shared->Prop}{s:Shared}
def sIx (n d:Nat):Option Int->Nat
 |none=>d
 |some v=>if v<0 then (v+(n:Int)).toNat else min v.toNat n
theorem sIx_nat (n d k:Nat):sIx n d (some (k:Int))=min k n:=by
 show (if (k:Int)<0 then ((k:Int)+(n:Int)).toNat else min (k:Int).toNat n)=min k n
 rw[if_neg (by lia),Int.toNat_natCast]
end
end HT
namespace L2
open PySem PySem.Spec PyProof.Rows
abbrev TO:=St->Hp->(Option Int->Hp->Prop)->Prop
def PO (X:Cx)(e:Option Expr)(t:TO):Prop:=
 ∀(pins:List (Addr×Obj)) (s:Shared) (Y:St) (H:Hp) (Q:Option Int->Hp->Prop),Inv X pins Y H s->t Y H Q->
  wpAny (model X.prog X.w) X.A (evalPart e X.env) (λu s'=>∃o H',Inv X pins Y H' s'/\IsPart u o/\Q o H') X.xe s
def tNoPart:TO:=λ_ H Q=>Q none H
def tPart (t:TE):TO:=λY H Q=>t Y H λx H1=>∃i,x = .int i/\Q (some i) H1
theorem intsAre_of {ns:List Int}:∀{us:List Value},Vals (ns.map V.int) us->IntsAre us ns:=by
 induction ns with
 |nil=>intro us r;rw[List.map_nil]at r;cases r;exact .nil
 |cons n ns ih=>
  intro us r
  cases r with
  |cons r1 r2=>
   obtain⟨t,e⟩:=r1
   subst e
   exact .cons n t (ih r2)
section
variable {X:Cx}{e:Expr}{te:TE}{lo hi:Option Expr}{tl th:TO}{pos p2:Pos}
theorem po_none:PO X none tNoPart:=by
 intro pins s Y H Q I h
 exact wpAny_pure ⟨none,H,I,.none,h⟩
theorem po_some (h:PE X e te):PO X (some e) (tPart te):=by
 intro pins s Y H Q I hw
 refine thn (h pins s Y H _ I hw) λu s1 ⟨x,H1,I1,r1,q1⟩=>?_
 obtain⟨i,rfl,q⟩:=q1
 obtain⟨t,rfl⟩:=r1
 exact⟨some i,H1,I1,.int i t,q⟩
def SlR (X:Cx)(r:V->Option Int->Option Int->Hp->VK->Prop):Prop:=
 ∀(pins:List (Addr×Obj)) (s:Shared) (Y:St) (H:Hp) (x:V) (v vl vu:Value) (lo hi:Option Int) (sl:Addr) (Q:VK),Inv X pins Y H s->RelV x v->s.heap.IsSliceOf sl vl vu .none->IsPart vl lo->IsPart vu hi->r x lo hi H Q->
  ∃T id,typeLookup (.type T) "__getitem__"=pure (some (.builtin id))/\s.TypeIs v T/\wpAny (model X.prog X.w) X.A (getItem v (.ref sl)) (EP X pins Y Q) X.xe s
def tSl (r:V->Option Int->Option Int->Hp->VK->Prop)(te:TE)(tl th:TO):TE:=λY H Q=>te Y H λx H1=>tl Y H1 λl H2=>th Y H2 λu H3=>r x l u H3 Q
theorem pe_slice {r:V->Option Int->Option Int->Hp->VK->Prop}(hr:SlR X r)(he:PE X e te)(hl:PO X lo tl)(hu:PO X hi th):PE X (.Subscript e (.Slice lo hi none p2) pos) (tSl r te tl th):=by
 intro pins s Y H Q I h
 refine Subscript_ (thn (he pins s Y H _ I h) λv s1 ⟨x,H1,I1,r1,q1⟩=>?_)
 refine wpAny_Slice (thn (hl pins s1 Y H1 _ I1 q1) λvl s2 ⟨l,H2,I2,pl,q2⟩=>thn (hu pins s2 Y H2 _ I2 q2) λvu s3 ⟨u,H3,I3,pu,q3⟩=>?_)
 refine wpAny_pure ?_
 have I4:Inv X pins Y H3 {s3 with heap:=s3.heap.push {cls:=.type "slice",data:=.fields #[vl,vu,.none]}}:=I3.kept (t':=s3.toks) λb ob q=>Heap.get?_push_of_some _ q
 obtain⟨T,id,hT,ht,hg⟩:=hr pins {s3 with heap:=s3.heap.push {cls:=.type "slice",data:=.fields #[vl,vu,.none]}} Y H3 x v vl vu l u s3.heap.objs.size Q I4 r1 (Heap.IsSliceOf.new ..) pl pu q3
 exact tail_any (ops:=[.ref s3.heap.objs.size,v]) ht hT hg (by with_unfolding_all rfl)
def cutV (xs:List V)(lo hi:Option Int):List V:=(xs.drop (HT.sIx xs.length 0 lo)).take (HT.sIx xs.length xs.length hi-HT.sIx xs.length 0 lo)
theorem cutV_length (xs:List V)(lo hi:Option Int):(cutV xs lo hi).length<=xs.length:=by
 unfold cutV
 rw[List.length_take,List.length_drop]
 lia
end
def ixN (n:Nat)(i:Int):Option Nat:=if 0<=i then (if i<n then some i.toNat else none) else if -(n:Int)<=i then some (i+n).toNat else none
def atI {α:Type}(xs:List α)(i:Int):Option α:=(ixN xs.length i).bind λj=>xs[j]?
theorem ixN_seq {n:Nat}{i:Int}{j:Nat}(h:ixN n i=some j):seqIndex? i n=some j/\j<n/\-(n:Int)<=i/\i<n:=by
 unfold ixN at h
 by_cases h0:0<=i
 .rw [if_pos h0]at h
  by_cases h1:i<n
  .rw [if_pos h1]at h
   have e:i.toNat=j:=Option.some.inj h
   exact⟨by rw[seqIndex_of h0 h1,e],by lia,by lia,h1⟩
  .rw [if_neg h1]at h;cases h
 .rw [if_neg h0]at h
  by_cases h1 : -(n:Int)<=i
  .rw [if_pos h1]at h
   have e:(i+n).toNat=j:=Option.some.inj h
   exact⟨by rw[seqIndex_neg (by lia) h1,e],by lia,h1,by lia⟩
  .rw [if_neg h1]at h;cases h
theorem atI_get {α:Type}{xs:List α}{i:Int}{v:α}(h:atI xs i=some v):∃j,seqIndex? i xs.length=some j/\xs[j]?=some v/\j<xs.length/\-(xs.length:Int)<=i/\i<xs.length:=by
 unfold atI at h
 cases e:ixN xs.length i with
 |none=>rw[e]at h;cases h
 |some j=>
  rw[e]at h
  obtain⟨h1,h2,h3,h4⟩:=ixN_seq e
  exact⟨j,h1,h,h2,h3,h4⟩
theorem atI_nat {α:Type}{xs:List α}{j:Nat}{v:α}(h:xs[j]?=some v):atI xs (j:Int)=some v:=by
 have hj:j<xs.length:=(List.getElem?_eq_some_iff.mp h).1
 have e:ixN xs.length (j:Int)=some j:=by
  unfold ixN
  rw[if_pos (by lia),if_pos (by lia)];simp
 unfold atI;rw[e];exact h
theorem atI_last {α:Type}(xs:List α)(v:α):atI (xs++[v]) (-1)=some v:=by
 have hl:(xs++[v]).length=xs.length+1:=by simp
 have e:ixN (xs++[v]).length (-1)=some xs.length:=by
  unfold ixN
  rw[ if_neg (by decide),if_pos (by lia)]
  congr 1
  lia
 unfold atI
 rw[e]
 simp
def PlainIx (b:Expr):Prop:=∀o i,subscripted b false o i=operate [o,i] (getItem o i)
def IxR (X:Cx)(r:R2):Prop:=
 ∀(value slice:Expr) (pins:List (Addr×Obj)) (s:Shared) (Y:St) (H:Hp) (x y:V) (v u:Value) (Q:VK),Inv X pins Y H s->RelV x v->RelV y u->r x y H Q->
  subscripted slice false v u=operate [v,u] (getItem v u)->wpAny (model X.prog X.w) X.A (subscriptTail value slice v u) (EP X pins Y Q) X.xe s
def MtR (X:Cx)(id:String)(r:V->List V->Hp->VK->Prop):Prop:=
 ∀(pins:List (Addr×Obj)) (s:Shared) (Y:St) (H:Hp) (x:V) (xs:List V) (v:Value) (us:List Value) (Q:VK),Inv X pins Y H s->RelV x v->Vals xs us->r x xs H Q->
  wpAny (model X.prog X.w) X.A (call (.builtin id) (v::us)) (EP X pins Y Q) X.xe s
section
variable {X:Cx}{a b:Expr}{ta tb:TE}{pos:Pos}
theorem Xaz {r:R2}(hr:IxR X r)(ha:PE X a ta)(hb:PE X b tb)(hs:PlainIx b):PE X (.Subscript a b pos) (tOp r ta tb):=by
 intro pins s Y H Q I h
 exact Subscript_ (binT ha hb I h λv u s2 x y H2 I2 rx ry q=>hr a b pins s2 Y H2 x y v u Q I2 rx ry q (hs _ _))
def rIxL (K:Frag):R2:=λx y H Q=>∃p xs i v,x = .ref p/\y = .int i/\SqL K H p xs/\atI xs i=some v/\Q v H
def rIxT (K:Frag):R2:=λx y H Q=>∃p xs i v,x = .ref p/\y = .int i/\SqT K H p xs/\atI xs i=some v/\Q v H
theorem ix_list:IxR X (rIxL X.K):=by
 intro value slice pins s Y H x y v u Q I rx ry h hs
 obtain⟨p,xs,i,z,rfl,rfl,hq,he,q⟩:=h
 cases rx
 obtain⟨t,rfl⟩:=ry
 obtain⟨its,r,pl,hz⟩:=I.list hq
 obtain⟨j,h1,h2,h3,h4,h5⟩:=atI_get he
 obtain⟨w,ew,rw'⟩:=r.get h2
 have hl:=r.length
 have hn:=line63
 have fin:EP X pins Y Q w s:=⟨z,H,I,rw',q⟩
 by_cases h0:0<=i
 .have hj:i.toNat=j:=by
   rw[seqIndex_of h0 h5]at h1
   exact Option.some.inj h1
  exact item_listR pl.isList h0 (by lia) (by rw[hj];simpa using ew) fin hs
 .have hj:(i+(its.toArray.size:Int)).toNat=j:=by
   rw[seqIndex_neg (by lia) h4]at h1
   rw[List.size_toArray,<- hl]
   exact Option.some.inj h1
  exact subscriptTail_builtinR pl.isList.typeIs slot_list_getitem.lookup
   (wpAny_getItem_list_neg (Q:=λr s'=>r=w/\EP X pins Y Q r s') pl.isList (by lia) (by rw[List.size_toArray]<;>lia) (by lia) (by rw[hj];simpa using ew) ⟨rfl,fin⟩) hs
theorem Xau:IxR X (rIxT X.K):=by
 intro value slice pins s Y H x y v u Q I rx ry h hs
 obtain⟨p,xs,i,z,rfl,rfl,hq,he,q⟩:=h
 cases rx
 obtain⟨t,rfl⟩:=ry
 obtain⟨its,r,pl,hz⟩:=I.tuple hq
 obtain⟨j,h1,h2,h3,h4,h5⟩:=atI_get he
 obtain⟨w,ew,rw'⟩:=r.get h2
 have hl:=r.length
 have hn:=line63
 have fin:EP X pins Y Q w s:=⟨z,H,I,rw',q⟩
 exact subscriptTail_builtinR pl.typeIs slot_tuple_getitem.lookup
  (getItem_tuple (Q:=λr s'=>r=w/\EP X pins Y Q r s') pl (by lia) (by lia) (by rw[List.size_toArray,<- hl];exact h1) (by simpa using ew) ⟨rfl,fin⟩) hs
theorem mapSeq_set (its:List Value)(n j:Nat)(u:Value):Obj.mapSeq (·.setIfInBounds j u) {cls:=.type "list",data:=.seq its.toArray n}={cls:=.type "list",data:=.seq (its.set j u).toArray n}:=by
 simp[Obj.mapSeq]
theorem Inv.lst {pins:List (Addr×Obj)}{Y:St}{H:Hp}{s:Shared}{p:Addr}{xs:List V}(I:Inv X pins Y H s)(h:H p=some (.lst xs)):
  ∃(its:List Value) (n:Nat),Vals xs its/\s.heap.get? p=some {cls:=.type "list",data:=.seq its.toArray n}/\xs.length<=sizeLine:=by
 obtain⟨z,its,n,r,e⟩:=I.hok p _ h
 exact⟨its,n,r,e,z⟩
theorem Inv.lstUpd {pins:List (Addr×Obj)}{Y:St}{H:Hp}{s:Shared}{p:Addr}{xs ys:List V}{its its':List Value}{n n':Nat}{f:Obj->Obj}(I:Inv X pins Y H s)(h:H p=some (.lst xs))
  (ho:s.heap.get? p=some {cls:=.type "list",data:=.seq its.toArray n}) (hf:f {cls:=.type "list",data:=.seq its.toArray n}={cls:=.type "list",data:=.seq its'.toArray n'}) (r:Vals ys its') (hz:ys.length<=sizeLine) (t:Nat):
  Inv X pins Y (upd H p (.lst ys)) {s with heap:=s.heap.update p f,toks:=t}:=by
 have e:(s.heap.update p f).get? p=some {cls:=.type "list",data:=.seq its'.toArray n'}:=by
  rw[Heap.get?_update_self f ho (by rw[hf]<;>rfl),hf]
 refine I.write (by rw[h];trivial) (.inl rfl) (λb u hb q=>(Heap.get?_update_other _ _ (Ne.symm hb)).trans q) ⟨_,e⟩ ?_
 exact⟨hz,its',n',r,e⟩
def rSetL:V->V->V->Hp->(Hp->Prop)->Prop:=λo i v H Q=>∃p xs k j,o = .ref p/\i = .int k/\H p=some (.lst xs)/\ixN xs.length k=some j/\Q (upd H p (.lst (xs.set j v)))
theorem set_list:PSet X rSetL:=by
 intro pins s Y H o i v ov iv u Q I ro ri rv h
 obtain⟨p,xs,k,j,rfl,rfl,hp,hj,q⟩:=h
 cases ro
 obtain⟨t,rfl⟩:=ri
 obtain⟨its,n,r,ho,hz⟩:=I.lst hp
 obtain⟨h1,h2,h3,h4⟩:=ixN_seq hj
 have hl:=r.length
 have hn:=line63
 have I':Inv X pins Y (upd H p (.lst (xs.set j v))) {s with heap:=s.heap.update p (Obj.mapSeq (·.setIfInBounds j u))}:=
  I.lstUpd hp ho (mapSeq_set its n j u) (r.set rv j) (by rw[List.length_set];exact hz) s.toks
 by_cases h0:0<=k
 .have hk:k.toNat=j:=by
   rw[seqIndex_of h0 h4]at h1
   exact Option.some.inj h1
  exact PySem.W.ki_setAt ho h0 (by lia) (by rw[List.size_toArray,<- hl];exact h4) (by rw[hk];exact⟨_,I',q⟩)
 .have hk:(k+(its.toArray.size:Int)).toNat=j:=by
   rw[seqIndex_neg (by lia) h3]at h1
   rw[List.size_toArray,<- hl]
   exact Option.some.inj h1
  exact PySem.W.ki_setBack ho (by lia) (by rw[List.size_toArray,<- hl];exact h3) (by lia) (by rw[hk];exact⟨_,I',q⟩)
theorem slice_bounds (lo hi:Option Int)(n:Nat):(sliceBounds lo hi none n).1=((HT.sIx n 0 lo:Nat):Int)/\(sliceBounds lo hi none n).2.1=((HT.sIx n n hi:Nat):Int)/\(sliceBounds lo hi none n).2.2=1:=by
 refine⟨?_,?_,rfl⟩
 .cases lo with
  |none=>simp[sliceBounds,HT.sIx]
  |some i=>
   simp only[sliceBounds,HT.sIx,Option.getD_none,if_true]
   by_cases h:i<0
   .simp only[h,if_true]<;>lia
   .simp only[h,if_false]<;>lia
 .cases hi with
  |none=>simp[sliceBounds,HT.sIx]
  |some i=>
   simp only[sliceBounds,HT.sIx,Option.getD_none,if_true]
   by_cases h:i<0
   .simp only[h,if_true]<;>lia
   .simp only[h,if_false]<;>lia
theorem slicePick_cut (its:List Value)(lo hi:Option Int):slicePick its.toArray lo hi none=((its.drop (HT.sIx its.length 0 lo)).take (HT.sIx its.length its.length hi-HT.sIx its.length 0 lo)).toArray:=by
 obtain⟨h1,h2,h3⟩:=slice_bounds lo hi its.toArray.size
 unfold slicePick
 rw[h1,h2,h3]
 simp only[sliceRange_one,pick_run]<;>rfl
def rSlL (K:Frag):V->Option Int->Option Int->Hp->VK->Prop:=λx lo hi H Q=>∃a xs,x = .ref a/\SqL K H a xs/\∀p,H p=none->Q (.ref p) (upd H p (.lst (cutV xs lo hi)))
theorem sl_list:SlR X (rSlL X.K):=by
 intro pins s Y H x v vl vu lo hi sl Q I rx hs pl pu h
 obtain⟨a,xs,rfl,hx,q⟩:=h
 cases rx
 obtain⟨its,r,ht,hz⟩:=I.list hx
 have hlen:=r.length
 refine⟨"list",_,slot_list_getitem.lookup,ht.isList.typeIs,?_⟩
 refine wpAny_getItem_list_slice ht.isList hs pl pu .none (by simp) ?_ (by rw[List.size_toArray]<;>lia)
 rw[slicePick_cut,<- hlen]
 refine⟨.ref s.heap.objs.size,_,I.laid (t':=s.toks) (o:=.lst (cutV xs lo hi)) (λb ob q=>Heap.get?_push_of_some _ q) (Nat.le_refl _) ?_,rfl,q _ (I.hok.fresh (Nat.le_refl _))⟩
 exact⟨Nat.le_trans (cutV_length xs lo hi) hz,_,0,(r.drop (HT.sIx xs.length 0 lo)).take (HT.sIx xs.length xs.length hi-HT.sIx xs.length 0 lo),Heap.get?_push_size _ rfl⟩
theorem Xa3:CallR X (.builtin "len") (λxs H Q=>∃p ys,xs=[.ref p]/\(SqL X.K H p ys∨SqT X.K H p ys)/\Q (.int ys.length) H):=by
 intro pins s Y H xs us Q I r h
 obtain⟨p,ys,rfl,hq,q⟩:=h
 obtain⟨u,rfl,rx⟩:=vals1 r
 cases rx
 have hn:=line63
 rcases hq with hq |hq
 .obtain ⟨its,r',pl,hz⟩:=I.list hq
  have hlen:=r'.length
  exact Calls.call_len_list pl.isList (by simp only[List.size_toArray]<;>lia) ⟨.int ys.length,H,I.tok _,⟨s.toks+1,by rw[List.size_toArray,hlen]⟩,q⟩
 .obtain ⟨its,r',pl,hz⟩:=I.tuple hq
  have hlen:=r'.length
  exact len_tuple pl (by simp only[List.size_toArray]<;>lia) ⟨.int ys.length,H,I.tok _,⟨s.toks+1,by rw[List.size_toArray,hlen]⟩,q⟩
theorem call_len_str:CallR X (.builtin "len") (λxs H Q=>∃z,xs=[.str z]/\z.length<=sizeLine/\Q (.int z.length) H):=by
 intro pins s Y H xs us Q I r h
 obtain⟨z,rfl,hz,q⟩:=h
 obtain⟨u,rfl,t,rfl⟩:=vals1 r
 have hn:=line63
 exact len_str (by lia) ⟨.int z.length,H,I.tok _,⟨_,rfl⟩,q⟩
theorem call_list_of:CallR X (.type "list") (λxs H Q=>∃p ys,xs=[.ref p]/\(SqL X.K H p ys∨SqT X.K H p ys)/\∀l,H l=none->Q (.ref l) (upd H l (.lst ys))):=by
 intro pins s Y H xs us Q I r h
 obtain⟨p,ys,rfl,hq,q⟩:=h
 obtain⟨u,rfl,rx⟩:=vals1 r
 cases rx
 have fin:∀(its:List Value),Vals ys its->ys.length<=sizeLine->∀(h':Heap) (c':Nat),(∀b o',s.heap.get? b=some o'->h'.get? b=some o')->
   h'.get? s.heap.objs.size=some {cls:=.type "list",dict:=none,data:=.seq its.toArray c',slots:=#[]}->EP X pins Y Q (.ref s.heap.objs.size) {s with heap:=h'}:=λits r' hz h' c' kp e=>
  ⟨.ref s.heap.objs.size,_,I.laid (t':=s.toks) kp (Nat.le_refl _) (show ObjOk X.prog X.w _ h' _ (.lst ys) from⟨hz,its,c',r',e⟩),rfl,q _ (I.hok.fresh (Nat.le_refl _))⟩
 rcases hq with hq |hq
 .obtain ⟨its,r',pl,hz⟩:=I.list hq
  have hlen:=r'.length
  obtain⟨o,ho,hc,n,hd⟩:=pl.isList
  exact call_list_seq p (.inl rfl) ho hc hd (λh' c' kp e=>fin its r' hz h' c' kp e) (by simp only[List.size_toArray]<;>lia)
 .obtain ⟨its,r',pl,hz⟩:=I.tuple hq
  have hlen:=r'.length
  obtain⟨o,ho,hc,n,hd⟩:=pl
  exact call_list_seq p (.inr rfl) ho hc hd (λh' c' kp e=>fin its r' hz h' c' kp e) (by simp only[List.size_toArray]<;>lia)
def tyV (K:Frag)(T:String)(x:V)(H:Hp):Prop:=match x with
 | .str _=>T = "str"
 | .int _=>T = "int"
 | .ref p=>(T = "list"/\∃xs,SqL K H p xs)∨(T = "tuple"/\∃o,K.lookup p=some o/\o.cls = .type "tuple"/\o.dict=none)∨
   (T = "dict"/\((∃kvs,H p=some (.dK kvs))∨∃kvs,H p=some (.dT kvs)))∨(T = "set"/\∃S n,H p=some (.set S n))
 |_=>False
theorem tyV_is {pins:List (Addr×Obj)}{Y:St}{H:Hp}{s:Shared}{T:String}{x:V}{v:Value}(I:Inv X pins Y H s)(r:RelV x v)(ty:tyV X.K T x H):
  s.TypeIs v T/\∀a,v = .ref a->∃ob,s.heap.get? a=some ob/\ob.dict=none:=by
 cases x with
 |str z=>
  obtain⟨t,rfl⟩:=r
  cases (show T = "str" from ty)
  exact⟨typeIs_str s z t,λ_ e=>nomatch e⟩
 |int i=>
  obtain⟨t,rfl⟩:=r
  cases (show T = "int" from ty)
  exact⟨typeIs_int s i t,λ_ e=>nomatch e⟩
 |ref p =>
  cases r
  rcases ty with⟨rfl,xs,hq⟩ | ⟨rfl,o,hk,hc,hd⟩ | ⟨rfl,hk⟩ | ⟨rfl,S,n,hk⟩
  .obtain ⟨its,_,pl,_⟩:=I.list hq
   refine⟨pl.isList.typeIs,λa e=>?_⟩
   cases e
   obtain⟨o,n,e,c,hd,_⟩:=pl
   exact⟨o,e,hd⟩
  .refine ⟨⟨o,I.kIn p o hk,hc⟩,λa e=>?_⟩
   cases e
   exact⟨o,I.kIn _ o hk,hd⟩
  .have z:∃o,s.heap.get? p=some o/\o.ExactDict:=by
    rcases hk with⟨kvs,hk⟩ | ⟨kvs,hk⟩
    .obtain ⟨_,_,_,_,o,_,_,e,ex,_⟩:=I.hok p _ hk
     exact⟨o,e,ex⟩
    .obtain ⟨_,_,_,_,o,_,_,e,ex,_⟩:=I.hok p _ hk
     exact⟨o,e,ex⟩
   obtain⟨o,e,ex⟩:=z
   refine⟨⟨o,e,ex.1⟩,λa e2=>?_⟩
   cases e2
   exact⟨o,e,ex.2.1⟩
  .obtain ⟨o,_,_,_,e,ex,_⟩:=I.hok p _ hk
   refine⟨⟨o,e,ex.1⟩,λa e2=>?_⟩
   cases e2
   exact⟨o,e,ex.2.1⟩
 |_=>exact False.elim ty
def tBM0 (K:Frag)(T:String)(r:V->List V->Hp->VK->Prop)(to:TE):TE:=λY H Q=>to Y H λx H1=>tyV K T x H1/\r x [] H1 Q
def tBM (K:Frag)(T:String)(r:V->List V->Hp->VK->Prop)(to:TE)(t:TA):TE:=λY H Q=>to Y H λx H1=>tyV K T x H1/\t Y H1 λxs H2=>r x xs H2 Q
variable {o e:Expr}{es:List Expr}{to:TE}{t:TA}{name:Str}{apos cpos:Pos}{T id:String}{r:V->List V->Hp->VK->Prop}
theorem pe_bm0 (pa:PlainAttrs T)(slot:Slot T name id)(hty:typeOf (.builtin id)=pure (.type "method_descriptor"))(hm:MtR X id r)(ho:PE X o to)
  (hbase:attributeBase o name X.env (eval o X.env)=eval o X.env:=by rfl) (hline:(apos.endLine==cpos.line)=true:=by rfl):PE X (.Call (.Attribute o name apos) [] [] cpos) (tBM0 X.K T r to):=by
 intro pins s Y H Q I h
 refine wpAny_Call_method0_late hbase hline (thn (ho pins s Y H _ I h) λv s1 ⟨x,H1,I1,r1,ty,q1⟩=>?_)
 obtain⟨h1,h2⟩:=tyV_is I1 r1 ty
 exact⟨T,id,pa,slot,hty,h1,h2,Calls.callWith_builtin rfl (PySem.evalArgs_none (hm pins s1 Y H1 x [] v [] Q I1 r1 .nil q1))⟩
theorem pe_bm (pa:PlainAttrs T)(slot:Slot T name id)(hty:typeOf (.builtin id)=pure (.type "method_descriptor"))(hm:MtR X id r)(ho:PE X o to)(ha:PA X (e::es) t)
  (hbase:attributeBase o name X.env (eval o X.env)=eval o X.env:=by rfl)
  (hfew:((backTo cpos (starEach (e::es) X.env)).all (λx => !x.1) && (backToKw cpos (keywordEach [] X.env)).all (λx=>x.1.isSome)
   && decide ((e::es).length+([]:List Keyword).length+(if ([]:List Keyword).isEmpty then 0 else 1)<30))=true:=by rfl)
  (hline:(apos.endLine==cpos.line)=true:=by rfl) (hs:starEach (e::es) X.env=(false,eval e X.env)::starEach es X.env:=by rfl) (hplain:(backTo cpos (starEach es X.env)).any (·.1)=false:=by rfl):
  PE X (.Call (.Attribute o name apos) (e::es) [] cpos) (tBM X.K T r to t):=by
 intro pins s Y H Q I h
 refine wpAny_Call_method_late hbase hfew hline rfl (thn (ho pins s Y H _ I h) λv s1 ⟨x,H1,I1,r1,ty,q1⟩=>?_)
 obtain⟨h1,h2⟩:=tyV_is I1 r1 ty
 refine⟨T,id,pa,slot,hty,h1,h2,?_⟩
 have hA:=ha cpos pins s1 Y H1 _ I1 q1
 rw[hs]at hA ⊢
 refine Calls.callWith_builtin (by show (false || (backTo cpos (starEach es X.env)).any (·.1))=false;rw[hplain]<;>rfl) (Calls.evalArgs_plain ?_)
 exact thn hA λus s2 ⟨vs,H2,I2,r2,q2⟩=>hm pins s2 Y H2 x vs v us Q I2 r1 r2 q2
end
def MtM (X:Cx)(id:String)(r:V->List V->Hp->VK->Prop):Prop:=
 ∀(pins:List (Addr×Obj)) (s:Shared) (Y:St) (H:Hp) (x:V) (xs:List V) (v:Value) (us:List Value) (Q:VK),Inv X pins Y H s->RelV x v->Vals xs us->r x xs H Q->
  wpAny (model X.prog X.w) X.A (call (.builtin id) (v::us)) (EP X pins Y Q) X.xe s
theorem Vals.one:∀{x:V} {us:List Value},Vals [x] us->∃u,us=[u]/\RelV x u
 |_,_,.cons r .nil=>⟨_,rfl,r⟩
theorem Vals.zero:∀{us:List Value},Vals [] us->us=[]
 |_,.nil=>rfl
theorem Vals.dropLast {xs:List V}{us:List Value}(h:Vals xs us):Vals xs.dropLast us.dropLast:=by
 induction h with
 |nil=>exact .nil
 |cons r t ih=>
  cases t with
  |nil=>exact .nil
  |cons q t'=>exact .cons r ih
theorem Vals.rep {xs:List V}{us:List Value}(h:Vals xs us):∀k:Nat,Vals (List.replicate k xs).flatten (List.replicate k us).flatten
 | 0=>.nil
 |k+1=>by
  exact Vals.append h (Vals.rep h k)
theorem erase_last {α:Type}(l:List α):l.eraseIdx (l.length-1)=l.dropLast:=by
 induction l with
 |nil=>rfl
 |cons a r ih=>
  cases r with
  |nil=>rfl
  |cons b r=>
   have e:(a::b::r).length-1=((b::r).length-1)+1:=by
    have h1:(a::b::r).length=r.length+2:=rfl
    have h2:(b::r).length=r.length+1:=rfl
    lia
   rw[e,List.eraseIdx_cons_succ,ih]
   all_goals rfl
theorem foldl_rep (its:List Value):∀(k:Nat) (acc:List Value),
  List.foldl (λx1 x2=>x1++x2) acc.toArray (List.replicate k its.toArray)=(acc++(List.replicate k its).flatten).toArray
 | 0,acc=>by simp
 |k + 1,acc=>by
  have e:acc.toArray++its.toArray=(acc++its).toArray:=by simp
  have e2:(acc++its)++(List.replicate k its).flatten=acc++(List.replicate (k+1) its).flatten:=by
   rw[List.replicate_succ,List.flatten_cons,List.append_assoc]
  rw[<- e2,<- foldl_rep its k (acc++its),<- e,List.replicate_succ,List.foldl_cons]
section
variable {X:Cx}{pins:List (Addr×Obj)}{Y:St}{H:Hp}{s:Shared}{l b:Addr}{xs ys zs:List V}
theorem Inv.lset {its its':List Value}{n:Nat}{f:Array Value->Array Value}{t':Nat}(I:Inv X pins Y H s)(hH:H l=some (.lst xs))
  (e:s.heap.get? l=some {cls:=.type "list",data:=.seq its.toArray n}) (hf:f its.toArray=its'.toArray) (hv:Vals ys its') (hz:ys.length<=sizeLine):
  Inv X pins Y (upd H l (.lst ys)) {s with heap:=s.heap.update l (Obj.mapSeq f),toks:=t'}:=by
 have q:=PySem.IsL.update e f
 rw[hf]at q
 refine I.write (by rw[hH];exact trivial) (.inl rfl) (λb' u hb hu=>(Heap.get?_update_other s.heap (Obj.mapSeq f) (Ne.symm hb)).trans hu) ⟨_,q⟩ ?_
 exact⟨hz,its',_,hv,q⟩
theorem Inv.lnew {its:List Value}{t':Nat}(I:Inv X pins Y H s)(hv:Vals ys its)(hz:ys.length<=sizeLine):
  Inv X pins Y (upd H s.heap.objs.size (.lst ys)) {s with heap:=s.heap.push {cls:=.type "list",data:=.seq its.toArray},toks:=t'}:=
 I.laid (λ_ _ q=>Heap.get?_push_of_some _ q) (Nat.le_refl _) ⟨hz,its,0,hv,Heap.get?_push_size _ rfl⟩
theorem Inv.fresh (I:Inv X pins Y H s):H s.heap.objs.size=none:=I.hok.fresh (Nat.le_refl _)
theorem Inv.lstM (I:Inv X pins Y H s)(hH:H l=some (.lst xs)):xs.length<=sizeLine/\∃(its:List Value) (n:Nat),Vals xs its/\xs.length=its.length/\s.heap.get? l=some {cls:=.type "list",data:=.seq its.toArray n}:=by
 obtain⟨z,its,n,r,e⟩:=I.hok l _ hH
 exact⟨z,its,n,r,r.length,e⟩
theorem notLongL {n:Nat}(h:n<=sizeLine):Builtin.List.listTooLong n=false:=by
 exact decide_eq_false (by lia)
end
section
variable {X:Cx}
def rAppend:V->List V->Hp->VK->Prop:=λx vs H Q=>∃l xs y,x = .ref l/\vs=[y]/\H l=some (.lst xs)/\xs.length<sizeLine/\Q .non (upd H l (.lst (xs++[y])))
theorem mt_append:MtM X "list.append" rAppend:=by
 intro pins s Y H x vs v us Q I rx rv h
 obtain⟨l,xs,y,rfl,rfl,hH,hz,q⟩:=h
 cases rx
 obtain⟨u,rfl,ru⟩:=rv.one
 obtain⟨z,its,n,r,hl,e⟩:=I.lstM hH
 refine call_meets F.slot_list_append ⟨_,e,rfl⟩ F.entry_list_append (F.args_list_append_2 _ _) (PySem.list_append l its.toArray n u (by rw[List.size_toArray];lia)) ⟨e,?_⟩
 refine⟨.non,_,I.lset (its':=its++[u]) hH e (by simp) (r.append (.cons ru .nil)) ?_,rfl,q⟩
 rw[List.length_append,List.length_singleton]
 lia
def rPop:V->List V->Hp->VK->Prop:=λx vs H Q=>∃l xs y,x = .ref l/\vs=[]/\H l=some (.lst xs)/\xs[xs.length-1]?=some y/\Q y (upd H l (.lst xs.dropLast))
theorem mt_pop:MtM X "list.pop" rPop:=by
 intro pins s Y H x vs v us Q I rx rv h
 obtain⟨l,xs,y,rfl,rfl,hH,hy,q⟩:=h
 cases rx
 have hus:=rv.zero
 subst hus
 obtain⟨z,its,n,r,hl,e⟩:=I.lstM hH
 obtain⟨u,hu,ru⟩:=r.get hy
 have hy':its.toArray[its.toArray.size-1]?=some u:=by
  show its.toArray[its.length-1]?=some u
  rw[<- Array.getElem?_toList,<- hl]
  exact hu
 refine call_meets F.slot_list_pop ⟨_,e,rfl⟩ F.entry_list_pop (F.args_list_pop_1 _) (MeetsSeq.list_pop_last l its.toArray n u hy' (by rw[List.size_toArray];lia)) ⟨e,?_⟩
 refine⟨y,_,I.lset (its':=its.dropLast) hH e ?_ r.dropLast ?_,ru,q⟩
 .rw [List.size_toArray,List.eraseIdxIfInBounds_toArray,erase_last]
 .rw [List.length_dropLast]
  lia
def rRep:R2:=λx y H Q=>∃l k xs,x = .ref l/\y = .int k/\H l=some (.lst xs)/\-(2^63)<=k/\k<2^63/\xs.length*k.toNat<=sizeLine/\
 ∀p,H p=none->Q (.ref p) (upd H p (.lst (List.replicate k.toNat xs).flatten))
theorem len_rep {α:Type}(xs:List α)(k:Nat):(List.replicate k xs).flatten.length=k*xs.length:=by
 induction k with
 |zero=>simp
 |succ k ih=>rw[List.replicate_succ,List.flatten_cons,List.length_append,ih,Nat.succ_mul,Nat.add_comm]
theorem op_rep:OpR X (binaryOp .Mult) rRep:=by
 intro pins s Y H x y v u Q I rx ry h
 obtain⟨l,k,xs,rfl,rfl,hH,h1,h2,hz,q⟩:=h
 cases rx
 obtain⟨t,rfl⟩:=ry
 obtain⟨z,its,n,r,hl,e⟩:=I.lstM hH
 have hlen:its.toArray.size*k.toNat<=sizeLine:=by rw[List.size_toArray,<- hl];exact hz
 have hcap:¬ its.toArray.size*k.toNat > (2^63-1) / 8:=by
  have:(sizeLine:Nat)<=(2^63-1) / 8:=by decide
  lia
 have hfit:¬ (!Builtin.List.listFitsIndex k)=true:=by
  rw[fitsIndex_both h1 h2]
  exact Bool.false_ne_true
 have hlong:¬ Builtin.List.listTooLong (its.toArray.size*k.toNat)=true:=by
  rw[notLongL hlen]
  exact Bool.false_ne_true
 have hnew:List.foldl (λx1 x2=>x1++x2) #[] (List.replicate (if its.toArray.isEmpty=true then 0 else k.toNat) its.toArray)=(List.replicate k.toNat its).flatten.toArray:=by
  have f0:∀m:Nat,List.foldl (λx1 x2=>x1++x2) #[] (List.replicate m its.toArray)=(List.replicate m its).flatten.toArray:=λm=>by
   have:=foldl_rep its m []
   exact this
  rw[f0]
  cases its with
  |nil=>simp
  |cons a r'=>rw[if_neg (by simp)]
 refine wpAny_binaryOp_repeat_ref (T := "list") (U := "int") rfl ⟨_,e,rfl⟩ (λs'=>typeIs_int s' k t) noFill_list_mul F.fills_int_mul F.slot_int_rmul repeat_list F.slot_int_index.lookup
  (call_meets F.slot_int_rmul (typeIs_int s k t) F.entry_int_rmul (F.args_int_rmul_2 _ _) (int___rmul___int_list k t l its.toArray n)
   ⟨e,rfl,⟨_,e,rfl⟩,call_meets F.slot_list_mul ⟨_,e,rfl⟩ F.entry_list_mul (F.args_list_mul_2 _ _) (AutoListH.list___mul___list_int_3 l its.toArray n k t hfit hcap hlong) ⟨e,?_⟩⟩)
 rw[hnew]
 exact⟨.ref _,_,I.lnew (t':=s.toks) (r.rep k.toNat) (by rw[len_rep,Nat.mul_comm];exact hz),rfl,q _ I.fresh⟩
end
section
variable {prog:Program}{w:World}{A:Around}{E:Value->Shared->Prop}{s:Shared}
set_option maxRecDepth 100000 in
end
section
variable {X:Cx}
end
end L2
namespace Att
open PySem PySem.W PySem.Calls PyProof.Rows
theorem ints_of_wellAll {P:Params}{h:Heap}:∀(ns:List Int) (vs:List Value),WellAll P h vs (ns.map WData.int)->IntsAre vs ns:=by
 intro ns
 induction ns with
 |nil=>
  intro vs w
  cases w
  exact .nil
 |cons n ns ih=>
  intro vs w
  cases w with
  |cons a b=>
   cases a
   exact .cons _ _ (ih _ b)
theorem script_of {l:OpenLaw}{n:Nat}(hn:l.most=some n){P:Params}{h:Heap}{args:List WData}{vals:List Value}
  (hpre:l.row.toRowW.claim.pre args=true) (hwl:WellAll P h vals args):
  ∃a vs ns,vals=[Value.ref a]/\args=[WData.list (ns.map WData.int)]/\h.get? a=some {cls:=.type "list",data:=.seq vs.toArray}/\IntsAre vs ns/\ns.length<=n:=by
 have hsh:WShape.hasAll [] args [.list .int]=true:=(pre_splitW hpre).1
 have hc:l.pre.holds [] {args:=args}=true:=(pre_splitW hpre).2
 obtain⟨d,r,rfl,h1,h2⟩:=hasAllW_cons hsh
 obtain rfl:=hasAllW_nil h2
 obtain⟨xs,rfl,h3⟩:=hasW_list h1
 obtain⟨ns,rfl⟩:=items_int h3
 have hlen:ns.length<=n:=by
  have h4:(WTm.not (.lt (.lit (.int (n:Int))) (.len (.arg 0)))).holds [] {args:=[.list (ns.map .int)]}=true:=by
   have h4:=(holds_andW hc).1
   rw[hn]at h4
   exact h4
  have h5:=condW_of h4 (w_not (w_lt w_lit (w_len_list (w_arg rfl))))
  refine Nat.le_of_not_lt λq=>?_
  first
   | (rw[decide_eq_true q']at h5;exact absurd h5 rfl)
   | (simp at h5;lia)
 cases hwl with
 |cons w1 w2=>
  cases w2
  cases w1 with
  |list ho hall=>exact⟨_,_,ns,rfl,rfl,ho,ints_of_wellAll ns _ hall,hlen⟩
theorem post_true (l:OpenLaw)(args:List WData):l.row.toRowW.claim.post args (.bool true) args=true:=
 postW_of (X:=(true==true))
  (show WShape.has [] (.bool true) .bool=true by first |rfl |decide |simp[ WShape.armsAll])
  (show (WTm.eq .res (.lit (.bool true))).value [] {args:=args,res:=some (.bool true),after:=args}=some (.bool (true==true)) from w_eq_bool (w_res rfl) w_lit) rfl
theorem attach_call {l:OpenLaw}{n:Nat}{q:Program}{loose:List Str}{XP:(Str->Option Value)->Heap->Prop}{YP:World->Heap->Prop}{d:DefRec}
  (hn:l.most=some n) (hdf:d.params.defaults=[])
  (call:∀(w:World) (s₀ s₁:Shared) (mg mb:Str->Option Value) (fa:Addr) (o:Obj) (pm cd doc:Value) (a:Addr) (vs:List Value) (ns:List Int),
   Ground q loose [] XP w s₀ mg mb s₁.heap->YP w s₁.heap->
   s₁.heap.get? fa=some o->o.data = .func (docDef d.name d.params d.body d.scope pm cd doc)->s₁.heap.CodeRec cd d.name->mg d.name=some (.ref fa)->
   s₁.heap.get? a=some {cls:=.type "list",data:=.seq vs.toArray}->IntsAre vs ns->ns.length<=n->s₁.gens=#[]->
   codeAny (model l.prog w) callerA (.call (.ref fa) ⟨[.ref a],[]⟩) (λr s'=>r = .ok (.ret (.bool true))/\OldK s₁.heap s'.heap/\s'.os=s₁.os/\AllBare s'.gens) s₁):
  WalkO q loose XP YP l.row.toRowW d [] (λf vs=>PySem.call f vs):=by
 intro w s₀ s₁ mg mb G σ fa o pm cd doc dV kV ho hd hcd hD hmg hg args vals as hpre hlay hrd hwl hlo
 obtain rfl:dV = .none:=Dflts.none hD hdf
 obtain rfl:kV = .none:=Dflts.noKw hD
 obtain⟨a,vs,ns,rfl,rfl,hobj,hints,hlen⟩:=script_of hn hpre hwl
 refine enter_call (codeAny_mono (call w s₀ s₁ mg mb fa o pm cd doc a vs ns G σ ho (fd_plain hd) hcd hmg hobj hints hlen hg) λr s' hq=>?_)
 obtain⟨rfl,h2,h3,h4⟩:=hq
 exact⟨.inl ⟨.bool true,.bool true,[],rfl,λ_=>rfl,.bool true,post_true l _,λ_=>⟨List.Pairwise.nil,λ_ hm=>(nomatch hm)⟩⟩,h2,h3,h4⟩
section
variable {prog:Program}{w:World}{A:Around}{E:Value->Shared->Prop}{s:Shared}{K:Frag}
end
end Att
namespace L2
open PySem PySem.Spec PyProof.Rows
theorem vals_ints:∀{vs:List Value} {ns:List Int},IntsAre vs ns->Vals (ns.map V.int) vs
 |_,_,.nil=>.nil
 |_,_,.cons n t h=>.cons ⟨t,rfl⟩ (vals_ints h)
def Only (H:Hp):Prop:=∀b,H b=none∨∃o xs,H b=some (.frz o (.lst xs))
theorem law_call {P:Program}{w:World}{K:Frag}{mg mb:Str->Option Value}{CX:CXT}{k:Nat}{fa a:Addr}{fd:FuncData}{x:Str}{sp:Sp}{s₁:Shared}{vs:List Value}{ns:List Int}
  (KX:K.In s₁.heap) (hns:s₁.heap.Ns mainGlobals mg) (hb:s₁.heap.Ns builtinsNs mb) (hbb:∀x:Str,x ≠ "__name__"->mb x=bootBuiltins x) (hlim:s₁.heap.NoLimit) (hg:s₁.gens=#[])
  (ha:s₁.heap.get? a=some {cls:=.type "list",data:=.seq vs.toArray}) (hi:IntsAre vs ns) (hl:ns.length<=sizeLine) (hr:Room k callerA)
  (F:∀base:Heap,K.In base->base.Ns mainGlobals mg->FnOk P w K mg base CX k fa fd [x] sp) (hbind:∀(s:Shared) (u:Value),BindsTo s fd ⟨[u],[]⟩ [(x,u)])
  (hsp:∀H:Hp,Only H->SqL K H a (ns.map V.int)->sp [.ref a] H (λv _=>v = .bl true) λ_ _ _=>False)
  (hCX:∀H e s',CX [] H s₁ (λ_ _ _=>False) e s'->False):
  codeAny (model P w) callerA (.call (.ref fa) ⟨[.ref a],[]⟩) (λr s'=>r = .ok (.ret (.bool true))/\OldK s₁.heap s'.heap/\s'.os=s₁.os/\AllBare s'.gens) s₁:=by
 have rv:=vals_ints hi
 have lenV:=hi.length
 have core : ∀H:Hp,Only H->SqL K H a (ns.map V.int)->HOk P w H s₁.heap->(∀b,H b≠none->b=a)->(H a≠none->K.lookup a=none)->
   codeAny (model P w) callerA (.call (.ref fa) ⟨[.ref a],[]⟩) (λr s'=>r = .ok (.ret (.bool true))/\OldK s₁.heap s'.heap/\s'.os=s₁.os/\AllBare s'.gens) s₁:=by
  intro H hO hS hok hA hK
  have base_of:∀{b:Addr} {o:Obj},s₁.heap.get? b=some o->H b=none->(hidT s₁.heap H).get? b=some o:=λe n=>hidT_get e n
  have noA:∀{b:Addr} {o:Obj} {es:Array DictEntry} {ep:Nat},s₁.heap.get? b=some o->o.data = .dict es ep->H b=none:=λ{b o es ep} e d=>by
   cases q:H b with
   |none=>rfl
   |some u=>
    have e':b=a:=hA b (by rw[q];simp)
    subst e'
    rw[ha]at e;cases e
    have d':Data.seq vs.toArray _=Data.dict es ep:=d
    cases d'
  have nsK:∀{b:Addr} {m:Str->Option Value},s₁.heap.Ns b m->(hidT s₁.heap H).Ns b m:=λ{b m} ⟨o,es,ep,e,d,r⟩=>⟨o,es,ep,base_of e (noA e d),d,r⟩
  have hKb:K.In (hidT s₁.heap H):=λb o e=>base_of (KX b o e) (by
   cases q:H b with
   |none=>rfl
   |some u=>
    have e':b=a:=hA b (by rw[q];simp)
    subst e'
    rw[hK (by rw[q];simp)]at e;cases e)
  have hM:Mod K mg (hidT s₁.heap H):=⟨hKb,nsK hns,⟨mb,nsK hb,hbb⟩,let⟨mc,h1,h2⟩:=hlim;⟨mc,nsK h1,h2⟩⟩
  have e0:Env0 P w K mg (hidT s₁.heap H) callerA [] s₁ H:=⟨rfl,hM,λb o e=>of_hidT e,Nat.le_of_eq (hidT_size _ _),trivial,λb hb=>absurd (show b∈([]:List Addr) from hb) (by simp),hok,.of_eq hg⟩
  refine codeAny_mono ((F _ hKb (nsK hns)).run callerA [] s₁ H ⟨[.ref a],[]⟩ [.ref a] [.ref a] _ _ hr e0 (hbind s₁ (.ref a)) (.cons rfl .nil) (hsp H hO hS)) λr s' h=>?_
  cases r with
  |error e=>exact (hCX H e s' h).elim
  |ok fl =>
   cases fl with
   |next=>exact False.elim h
   |brk=>exact False.elim h
   |cont=>exact False.elim h
   |ret u=>
    obtain⟨v,H',os,bare,un,hok',r',q⟩:=h
    have q':v = .bl true:=q
    subst q'
    obtain rfl:u=Value.bool true:=r'
    refine⟨rfl,OldK.of_keep λb o e=>?_,os,bare⟩
    cases q:H b with
    |none=>exact un.keep b o e q (by intro z;exact absurd (show b∈([]:List Addr) from z) (by simp)) (by simp)
    |some u=>
     rcases hO b with z | ⟨ob,xs,z⟩
     .rw [q]at z;cases z
     .have z2:=un.frzs b ob _ z
      obtain⟨e1,_⟩:=hok b _ z
      obtain⟨e2,_⟩:=hok' b _ z2
      rw[e]at e1;cases e1
      exact e2
 cases hk:K.lookup a with
 |some o=>
  have e:=KX a o hk
  rw[ha]at e
  cases e
  refine core (λ_=>none) (λ_=>.inl rfl) (.inr ⟨_,vs.toArray,_,hk,rfl,rfl,rfl,by rw[List.size_toArray,lenV];exact hl,rv⟩) (λb u z=>by have z':(none:Option HO)=some u:=z;cases z') (λb z=>absurd rfl z) λz=>absurd rfl z
 |none=>
  refine core (λb=>if b=a then some (.frz {cls:=.type "list",data:=.seq vs.toArray} (.lst (ns.map V.int))) else none) (λb=>?_) (.inl (.inr ⟨{cls:=.type "list",data:=.seq vs.toArray},if_pos rfl⟩)) (λb u z=>?_) (λb z=>?_) λ_=>hk
  .by_cases hb:b=a
   .exact .inr ⟨_,_,if_pos hb⟩
   .exact .inl (if_neg hb)
  .by_cases hb:b=a
   .have z':=(if_pos hb).symm.trans z
    cases z'
    subst hb
    exact⟨ha,by rw[List.length_map];exact hl,vs,_,rv,ha⟩
   .have z':=(if_neg hb).symm.trans z
    cases z'
  .by_cases hb:b=a
   .exact hb
   .exact absurd (if_neg hb) z
theorem walk_of {l:PySem.W.OpenLaw}{n k:Nat}{q:Program}{loose:List Str}{XP:(Str->Option Value)->Heap->Prop}{YP:World->Heap->Prop}{d:DefRec}{K:Params->Frag}{CX:World->CXT}{sp:World->Sp}{x:Str}
  (hn:l.most=some n) (hn2:n<=sizeLine) (hdf:d.params.defaults=[]) (hr:Room k callerA)
  (hY:∀(w:World) (h:Heap),YP w h->(K w.params).In h)
  (F:∀(w:World) (mg:Str->Option Value) (fa:Addr) (h:Heap),(K w.params).In h->h.Ns mainGlobals mg->mg d.name=some (.ref fa)->
   ∃fd:FuncData,(∀(s:Shared) (u:Value),BindsTo s fd ⟨[u],[]⟩ [(x,u)])/\
    ∀base:Heap,(K w.params).In base->base.Ns mainGlobals mg->FnOk l.prog w (K w.params) mg base (CX w) k fa fd [x] (sp w))
  (hsp:∀(w:World) (H:Hp) (a:Addr) (ns:List Int),ns.length<=n->Only H->SqL (K w.params) H a (ns.map V.int)->sp w [.ref a] H (λv _=>v = .bl true) λ_ _ _=>False)
  (hCX:∀(w:World) (H:Hp) (s:Shared) (e:Value) (s':Shared),CX w [] H s (λ_ _ _=>False) e s'->False):
  PySem.W.WalkO q loose XP YP l.row.toRowW d [] (λf vs=>PySem.call f vs):=by
 refine Att.attach_call hn hdf λw s₀ s₁ mg mb fa o pm cd doc a vs ns G σ ho hd hcd hmg hobj hints hlen hg=>?_
 have KX:=hY w _ σ
 obtain⟨fd,hb,hF⟩:=F w mg fa _ KX G.T.g hmg
 exact law_call KX G.T.g G.T.b G.T.builtins G.T.nolimit hg hobj hints (Nat.le_trans hlen hn2) hr hF hb (λH hO hS=>hsp w H a ns hlen hO hS) λH e s'=>hCX w H s₁ e s'
def inClass (s:Stmt)(j:Nat):Stmt:=match s with
 | .ClassDef _ _ _ body _ _ _ _ _ _ _=>body.getD j (.Pass ⟨0,0,0,0⟩)
 |_=>.Pass ⟨0,0,0,0⟩
def defArgs (s:Stmt):Arguments:=match s with
 | .FunctionDef _ a _ _ _ _ _ _ _ _=>a
 |_=>{posonlyargs:=[],args:=[],vararg:=none,kwonlyargs:=[],kw_defaults:=[],kwarg:=none,defaults:=[]}
def Xa4 (s:Stmt):List Stmt:=match s with
 | .FunctionDef _ _ b _ _ _ _ _ _ _=>b
 |_=>[]
def Xac (s:Stmt):Scope:=match s with
 | .FunctionDef _ _ _ _ _ _ sc _ _ _=>sc
 |_=>{kind:=.function,names:=[],isGenerator:=false,isCoroutine:=false}
abbrev CX0:CXT:=λ_ _ _ _ _ _=>False
abbrev E0:XK:=λ_ _ _=>False
theorem pass0 {X:Cx}:Passes CX0 X E0:=λ_ _ _ _ _ _ _ h=>h.elim
structure Fun (K:Frag) (x qual:Str) (st:Stmt) (f:Addr) (fd:FuncData):Prop where
 ex:∃(oc:Value) (od:Option Addr) (kV doc pm:Value) (an:Option Addr) (cdv ct:Value) (osl:Array (Option Value)),
  fd=PySem.W.fnOf x qual (defArgs st) (Xa4 st) (Xac st) .none kV doc pm an cdv ct/\K.lookup f=some ⟨oc,od,.func fd,osl⟩/\PySem.W.codeIn K cdv qual=true
 kp:PySem.W.keepIn K (.ref f)=true
section
variable {P:Program}{w:World}{K:Frag}{mg:Str->Option Value}{base:Heap}
theorem Fun.ok {x qual:Str}{st:Stmt}{f:Addr}{fd:FuncData}{N ps:List Str}{k:Nat}{sp:Sp}(F:Fun K x qual st f fd)(S:FnScope N ps (Xac st))(len:∀vs H Q E,sp vs H Q E->vs.length=ps.length)
  (hbody:∀(cdv:Value) (A:Around) (outer:List Env) (s:Shared) (H:Hp) (vs:List V) (Q:VK) (E:XK),Room k (A.deeper (envOfC qual (Xac st) s.heap.objs.size f cdv))->sp vs H Q E->
   ∃t,PSs (cxOf CX0 P w K mg base N qual (Xac st) f cdv A outer s H E).nox (Xa4 st) t/\t {nx:=λ_ H'=>Q .non H',rt:=Q} (start N vs) H):FnOk P w K mg base CX0 (k+1) f fd ps sp:=by
 obtain⟨oc,od,kV,doc,pm,an,cdv,ct,osl,rfl,lk,hcd⟩:=F.ex
 refine fn_of lk hcd S len λA outer s H vs Q E hr hsp=>?_
 obtain⟨t,h,q⟩:=hbody cdv A outer s H vs Q E hr hsp
 exact⟨t,h.nox,q⟩
theorem Fun.binds {x qual:Str}{st:Stmt}{f:Addr}{fd:FuncData}{ps:List Str}(F:Fun K x qual st f fd)
  (h:∀(kV doc pm:Value) (an:Option Addr) (cdv ct:Value) (us:List Value),us.length=ps.length->bindArgs (PySem.W.fnOf x qual (defArgs st) (Xa4 st) (Xac st) .none kV doc pm an cdv ct) ⟨us,[]⟩=pure (ps.zip us)):Binds K fd ps []:=by
 obtain⟨oc,od,kV,doc,pm,an,cdv,ct,osl,rfl,lk,hcd⟩:=F.ex
 exact .all (h kV doc pm an cdv ct)
theorem fun_mk {x qual:Str}{st:Stmt}{f:Addr}{oc:Value}{od an:Option Addr}{osl:Array (Option Value)}{kV doc pm cdv ct:Value}(l:K.lookup f=some ⟨oc,od,.func (PySem.W.fnOf x qual (defArgs st) (Xa4 st) (Xac st) .none kV doc pm an cdv ct),osl⟩)
  (c:PySem.W.codeIn K cdv qual=true) (k:PySem.W.keepIn K (.ref f)=true):Fun K x qual st f (PySem.W.fnOf x qual (defArgs st) (Xa4 st) (Xac st) .none kV doc pm an cdv ct):=⟨⟨oc,od,kV,doc,pm,an,cdv,ct,osl,rfl,l,c⟩,k⟩
end
section
variable {X:Cx}
theorem pv (i:Nat){x:Str}{pos:Pos}(hN:X.N[i]?=some x:=by rfl)(hv:Vis X.env.scope x:=by first |exact Or.inl rfl |exact Or.inr (Or.inl rfl) |exact Or.inr (Or.inr rfl))(hd:(x==("__debug__":Str))=false:=by decide)
  (hcd:(x==("__classdict__":Str))=false:=by decide):PE X (.Name x pos) (tVar i):=pe_var hN hv hd hcd
end
theorem iteF {A B:Prop}(h:B):if false=true then A else B:=by
 rw[if_neg Bool.false_ne_true]
 exact h
theorem iteT {A B:Prop}(h:A):if true=true then A else B:=by
 rw[if_pos rfl]
 exact h
def Same (H H':Hp):Prop:=∀b o,H b=some o->H' b=some o
theorem Same.refl (H:Hp):Same H H:=λ_ _ h=>h
theorem Same.trans {H H1 H2:Hp}(a:Same H H1)(b:Same H1 H2):Same H H2:=λc o h=>b c o (a c o h)
theorem Same.free {H H':Hp}(e:Same H H'){l:Addr}(h:H' l=Option.none):H l=Option.none:=by
 cases q:H l with
 |none=>rfl
 |some o=>
  rw[e l o q]at h
  cases h
theorem Same.seq {K:Frag}{H H':Hp}{a:Addr}{xs:List V}(e:Same H H')(h:SqL K H a xs):SqL K H' a xs:=by
 rcases h with (h | ⟨o,h⟩) |h
 .exact .inl (.inl (e _ _ h))
 .exact .inl (.inr ⟨o,e _ _ h⟩)
 .exact .inr h
end L2
set_option maxHeartbeats 4000000
namespace L2
open PySem PySem.Spec PyProof.Rows
structure DefAt (K:Frag) (mg:Str->Option Value) (x:Str) (st:Stmt) (f:Addr) (fd:FuncData):Prop where
 fn:Fun K x x st f fd
 here:mg x=some (.ref f)
structure Cal (P:Program) (w:World) (K:Frag) (mg:Str->Option Value) (base:Heap) (x:Str) (k:Nat) (ps:List Str) (sp:Sp):Prop where
 ex:∃f fd,FnOk P w K mg base CX0 k f fd ps sp/\mg x=some (.ref f)/\PySem.W.keepIn K (.ref f)=true/\Binds K fd ps []
theorem Cal.of {P:Program}{w:World}{K:Frag}{mg:Str->Option Value}{base:Heap}{x:Str}{st:Stmt}{f:Addr}{fd:FuncData}{N ps:List Str}{k:Nat}{sp:Sp}(D:DefAt K mg x st f fd)(S:FnScope N ps (Xac st))
  (hb:∀(kV doc pm:Value) (an:Option Addr) (cdv ct:Value) (us:List Value),us.length=ps.length->bindArgs (PySem.W.fnOf x x (defArgs st) (Xa4 st) (Xac st) .none kV doc pm an cdv ct) ⟨us,[]⟩=pure (ps.zip us))
  (len:∀vs H Q E,sp vs H Q E->vs.length=ps.length)
  (hbody:∀(cdv:Value) (A:Around) (outer:List Env) (s:Shared) (H:Hp) (vs:List V) (Q:VK) (E:XK),Room k (A.deeper (envOfC x (Xac st) s.heap.objs.size f cdv))->sp vs H Q E->
   ∃t,PSs (cxOf CX0 P w K mg base N x (Xac st) f cdv A outer s H E).nox (Xa4 st) t/\t {nx:=λ_ H'=>Q .non H',rt:=Q} (start N vs) H):Cal P w K mg base x (k+1) ps sp:=
 ⟨f,fd,D.fn.ok S len hbody,D.here,D.fn.kp,D.fn.binds hb⟩
theorem Xav (C:Cal X.prog X.w X.K X.mg X.base x k ps sp)(hr:Room k X.A)(hg:Gl X x)(ha:PA X (e::es) t)
  (hdb:(x==("__debug__":Str))=false:=by decide) (he:starEach (e::es) X.env=(false,eval e X.env)::starEach es X.env:=by rfl) (hpl:(backTo pos (starEach es X.env)).any (·.1)=false:=by rfl):
  PE X (.Call (.Name x p) (e::es) [] pos) (tCall sp [] E0 t):=by
 obtain⟨f,fd,F,hm,hk,hb⟩:=C.ex
 exact pe_call F hr hg hm hk hb .nil pass0 ha hdb he hpl
def spL (n:Nat)(R:List V->Hp->VK->Prop):Sp:=λvs H Q _=>vs.length=n/\R vs H Q
structure Blt (mg:Str->Option Value):Prop where
 len:mg "len"=none
 range:mg "range"=none
 max:mg "max"=none
 min:mg "min"=none
 isinstance:mg "isinstance"=none
 int:mg "int"=none
 bool:mg "bool"=none
 tuple:mg "tuple"=none
 list:mg "list"=none
 all:mg "all"=none
 zip:mg "zip"=none
 reversed:mg "reversed"=none
theorem Same.new (h:H p=none): Same H (upd H p o):=λb u e=>by rw[upd_ne (ne_of_none e h)];exact e
section
variable {X:Cx}{e:Expr}{es:List Expr}{te:TE}{t:TA}{pos:Pos}
def tTupS (t:TA):TE:=λY H Q=>t Y H λxs H1=>xs.length<=sizeLine/\∀p H',H1 p=none->Same H1 H'->H' p=some (.tup xs)->Q (.ref p) H'
def tLstS (t:TA):TE:=λY H Q=>t Y H λxs H1=>xs.length<=sizeLine/\∀p H',H1 p=none->Same H1 H'->H' p=some (.lst xs)->Q (.ref p) H'
theorem pe_tupS {x1}(h:PA X es t): PE X (.Tuple es x1 pos) (tTupS t):=by
 intro pins s Y H Q I hq
 refine wpAny_Tuple_spliced (thn (h pos pins s Y H _ I hq) λus s1 ⟨xs,H1,I1,r,z,q⟩=>⟨by rw[<- r.length];exact z,?_⟩)
 have hf:H1 s1.heap.objs.size=none:=I1.hok.fresh (Nat.le_refl _)
 refine⟨.ref s1.heap.objs.size,upd H1 s1.heap.objs.size (.tup xs),I1.laid (t':=s1.toks) (λb u e=>Heap.get?_push_of_some _ e) (Nat.le_refl _) ?_,rfl,q _ _ hf (Same.new hf) Xa0⟩
 exact⟨z,us,r,⟨_,Heap.get?_push_size _ rfl,rfl,_,rfl⟩⟩
theorem pe_lstS (h:PA X es t): PE X (.List es pos) (tLstS t):=by
 intro pins s Y H Q I hq
 refine wpAny_List_spliced (thn (h pos pins s Y H _ I hq) λus s1 ⟨xs,H1,I1,r,z,q⟩=>⟨by rw[<- r.length];exact z,?_⟩)
 have hf:H1 s1.heap.objs.size=none:=I1.hok.fresh (Nat.le_refl _)
 refine⟨.ref s1.heap.objs.size,upd H1 s1.heap.objs.size (.lst xs),I1.laid (t':=s1.toks) (λb u e=>Heap.get?_push_of_some _ e) (Nat.le_refl _) ?_,rfl,q _ _ hf (Same.new hf) Xa0⟩
 exact⟨z,us,0,r,Heap.get?_push_size _ rfl⟩
end
theorem iteB {c:Bool}{A B:Prop}(hc:c=false)(h:B):if c=true then A else B:=by
 rw[hc];exact iteF h
def Itrs (lo c:Int)(n:Nat):It:=⟨λi _=>i<n,λi H x H'=>H'=H/\x = .int (lo+i*c),λi _=>n<=i⟩
theorem turn_rangeS {P:Program}{w:World}{K:Frag}{tg:Expr}(it:Addr)(lo c:Int)(n:Nat):Turn P w K tg (Itrs lo c n) [it] it (λi h=>IsRangeIter h it (lo+(i:Nat)*c) ((n:Int)-(i:Nat)) c) where
 mem:=by simp
 obj := λi h st b hb=>by
  have e:b=it:=by simpa using hb
  subst e
  exact⟨_,st,λv z=>by
   have z':Data.fields _=Data.cell v:=z
   cases z'⟩
 keep:=λi h h' st k=>k it (by simp) _ st
 item:=by
  kj_on
  obtain⟨f0,f1,f2,f3,f4,f5⟩:=hf it (by simp)
  have W:=Walks.range (prog:=X.prog) (w:=X.w) (I.ok.hd hc) it lo c n
  refine W.item i s _ _ hg st λv h' tk hv st' kk=>?_
  obtain⟨t,rfl⟩:=hv
  have I1:Inv X pins Y H {s with heap:=h',toks:=tk}:=I.turned (λb o hb e=>kk b o (by simpa using hb) e) f0 f1 f3 f4 f5
  exact⟨_,rfl,go_of (s:={s with heap:=h',toks:=tk}) (n := "range_iterator") st' rfl rfl rfl ⟨.int (lo+i*c),H,I1,⟨t,rfl⟩,⟨rfl,rfl⟩,st',λb hb=>(hf b hb).1⟩⟩
 done:=by
  intro X hP hw hK hc i pins s Y H E I hf st hg
  obtain⟨f0,f1,f2,f3,f4,f5⟩:=hf it (by simp)
  exact wpAny_pyNext_range_end (I.ok.hd hc) st (by have:n<=i:=hg;lia) λh' eb=>⟨rfl,I.turned (t':=s.toks) (λb o hb e=>eb b o hb e) f0 f1 f3 f4 f5⟩
 self:=λ_ _ _ _ _ st h=>wpAny_pyIter_rangeiter st h
theorem small_step (ha : -(2^61)<=a)(ha':a<2^61)(hb : -(2^61)<=b)(hb':b<2^61)(hc:0<c)(hc':c<2^61): Builtin.Range.small a b c=true:=by
 have h1:0<=Builtin.Range.rangeSize a b c/\Builtin.Range.rangeSize a b c<=2^62:=by
  unfold Builtin.Range.rangeSize
  rw[if_pos (show c > 0 from hc)]
  split
  .have e1:(b-a-1) / c<=b-a-1:=Int.ediv_le_self _ (by lia)
   have e2:0<=(b-a-1) / c:=Int.ediv_nonneg (by lia) (by lia)
   lia
  .lia
 unfold Builtin.Range.small
 simp only[Builtin.Range.rangeFitsLong,Bool.and_eq_true,Bool.or_eq_true,decide_eq_true_eq,show c > 0 from hc,if_true]
 omega
section
variable {X:Cx}{tg:Expr}
def rngN (i j c:Int):Nat:=(Builtin.Range.rangeSize i j c).toNat
def iRng3 (ta:TA):TI:=λY H R=>ta Y H λvs H1=>∃i j c:Int,vs=[.int i,.int j,.int c]/\(-(2^61)<=i/\i<2^61/\-(2^61)<=j/\j<2^61/\0<c/\c<2^29)/\R (Itrs i c (rngN i j c)) H1
theorem pi_range3 (hg:Gl X "range")(hm:X.mg "range"=none)(ha:PA X [a,b,d] ta)(hs:starEach [a,b,d] X.env=(false,eval a X.env)::starEach [b,d] X.env:=by rfl)
  (hpl:(backTo pos (starEach [b,d] X.env)).any (·.1)=false:=by rfl):
  PI X tg (.Call (.Name "range" p) [a,b,d] [] pos) (iRng3 ta):=by
 intro pins s Y H R I h
 refine Call_ (ld_blt I hg hm boot_range (PyProof.Rows.callWith_type1 (thn (ha pos pins s Y H _ I h) λus s1 ⟨vs,H1,I1,r1,q1⟩=>?_) hs hpl))
 obtain⟨i,j,c,e,⟨q1,q2,q3,q4,q5,q6⟩,q⟩:=q1
 subst e
 cases r1 with
 |cons r rr =>
  cases rr with
  |cons r' rr=>
   cases rr with
   |cons r'' rr=>
    cases rr
    obtain⟨t,rfl⟩:=r
    obtain⟨t',rfl⟩:=r'
    obtain⟨t'',rfl⟩:=r''
    refine PySem.call_range_3 (by lia) ?_ (.inl (PyProof.noPylong_small (by omega)))
    refine wpAny_pyIter_range (IsRange.new ..) (small_step q1 q2 q3 q4 q5 (by lia)) ?_
    have I2:Inv X pins Y H1 {s1 with heap:=s1.heap.push {cls:=.type "range",data:=.fields #[.int i t,.int j t',.int c t'']},toks:=s1.toks}:=I1.kept λb o e=>Heap.get?_push_of_some _ e
    refine⟨(s1.heap.push {cls:=.type "range",data:=.fields #[.int i t,.int j t',.int c t'']}).objs.size,[(s1.heap.push {cls:=.type "range",data:=.fields #[.int i t,.int j t',.int c t'']}).objs.size],_,_,H1,rfl,
     I2.kept (t':=s1.toks) λb o e=>Heap.get?_push_of_some _ e,turn_rangeS _ i c (rngN i j c),?_,λb hb=>?_,q⟩
    .have e1:i+((0:Nat):Int)*c=i:=by simp
     have e2:((rngN i j c:Nat):Int)-((0:Nat):Int)=Builtin.Range.rangeSize i j c:=by
      have z:0<=Builtin.Range.rangeSize i j c:=by
       unfold Builtin.Range.rangeSize
       rw[if_pos (show c > 0 from q5)]
       split
       .have e2:0<=(j-i-1) / c:=Int.ediv_nonneg (by lia) (by lia)
        omega
       .lia
      unfold rngN;lia
     rw[e1,e2]
     exact Heap.get?_push_size _ rfl
    .have e:b=(s1.heap.push {cls:=.type "range",data:=.fields #[.int i t,.int j t',.int c t'']}).objs.size:=by simpa using hb
     subst e
     exact I2.fpOk (Nat.le_refl _) (I2.hok.fresh (Nat.le_refl _))
end
section
variable {X:Cx}
end
def freeL (scope:Scope)(env:Env):List (Str×Addr):=((scope.names.filter λx=>x.2 == .free).map λx=>(x.1,(env.cells.lookup x.1).getD 0)).reverse
theorem closureFor_go (env:Env): ∀(l:List (Str×NameKind)) (acc:List (Str×Addr)),(∀x∈l,x.2 = .free->∃c,env.cells.lookup x.1=some c)->
  (forIn l acc (λ(x:Str×NameKind) (r:List (Str×Addr))=>(match x with | (name,kind)=>if (kind==NameKind.free)=true then do let a <- cellOf env name;pure (ForInStep.yield ((name,a)::r)) else pure (ForInStep.yield r):Sem (ForInStep (List (Str×Addr)))))) =
   (pure (((l.filter λx=>x.2 == .free).map λx=>(x.1,(env.cells.lookup x.1).getD 0)).reverse++acc):Sem (List (Str×Addr)))
 | [],acc,_=>rfl
 | (n,k)::l,acc,h=>by
  rw[List.forIn_cons]
  by_cases hk:k = .free
  .subst hk
   obtain⟨c,hc⟩:=h (n,.free) List.mem_cons_self rfl
   have hc':env.cells.lookup n=some c:=hc
   have ih:=closureFor_go env l ((n,c)::acc) λx hx=>h x (List.mem_cons_of_mem _ hx)
   have e:cellOf env n=pure c:=by unfold cellOf;rw[hc']
   simp only[beq_self_eq_true,if_true,e,pure_bind]
   rw[ih]
   simp[hc']
  .have hb:(k==NameKind.free)=false:=by simpa using hk
   have ih:=closureFor_go env l acc λx hx=>h x (List.mem_cons_of_mem _ hx)
   simp only[hb,Bool.false_eq_true,if_false,pure_bind]
   rw[ih]
   simp[hb]
theorem closureFor_free (h:∀x∈scope.names,x.2 = .free->∃c,env.cells.lookup x.1=some c): closureFor scope env=pure (freeL scope env):=by
 have:=closureFor_go env scope.names [] h
 unfold closureFor freeL
 rw[List.append_nil]at this
 simp only[bind_pure]
 exact this
theorem freeL_lookup (x:Str): (freeL scope env).lookup x=if (scope.names.any λy=>y.1==x && y.2 == .free) then some ((env.cells.lookup x).getD 0) else none:=by
 have key:∀(l:List (Str×NameKind)),((l.filter λx=>x.2 == .free).map λx=>(x.1,(env.cells.lookup x.1).getD 0)).lookup x=if (l.any λy=>y.1==x && y.2 == .free) then some ((env.cells.lookup x).getD 0) else none:=by
  intro l
  induction l with
  |nil=>rfl
  |cons p l ih=>
   obtain⟨n,k⟩:=p
   by_cases hk:(k==NameKind.free)=true
   .rw [List.filter_cons,if_pos (show ((n,k).2==NameKind.free)=true from hk),List.map_cons,List.lookup_cons,ih]
    by_cases hn:n=x
    .subst hn;simp[hk]
    .have h1:(x==n)=false:=by simpa using λe=>hn e.symm
     have h2:(n==x)=false:=by simpa using hn
     simp[h1,h2]
   .have hk':(k==NameKind.free)=false:=by simpa using hk
    rw[List.filter_cons,if_neg (show ¬ ((n,k).2==NameKind.free)=true from hk),ih]
    simp[hk']
 have rev:(freeL scope env)=((scope.names.reverse.filter λx=>x.2 == .free).map λx=>(x.1,(env.cells.lookup x.1).getD 0)):=by
  unfold freeL
  rw[<- List.map_reverse,<- List.filter_reverse]
 rw[rev,key,List.any_reverse]
theorem compLoop_x {R:Result->Shared->Prop}(I:Nat->Shared->Prop)
  (turn : ∀n s,I n s->wpAny (model prog w) A (pyNext it) (λr s₁=>match r with
   |none=>R (.ok .next) s₁
   |some v=>wpAny (model prog w) A (letOwnedTupleGo target it v) (λ_ s₂=>wpAny (model prog w) A (assign target env v) (λ_ s₃=>wpAny (model prog w) A (eval elt env) (λx s₄=>
     wpAny (model prog w) A (call (.builtin "list.append") [acc,x]) (λ_ s₅=>∃m,m<n/\I m s₅) (λ_ _=>False) s₄) (notedBy (model prog w) A env λe s'=>R (.error e) s') s₃) (λ_ _=>False) s₂) (λ_ _=>False) s₁) (λ_ _=>False) s)
  (n:Nat) (h:I n s): codeAny (model prog w) A (.compLoop (.ListComp elt [⟨target,iter,[],0⟩] scope pos) 0 it acc env) R s:=by
 refine codeAny_loop rfl I (λn s hI=>?_) n h
 refine wpAny_noted ?_
 rw[compTurn_list1]
 refine wpAny_bind (wpAny_standAt (wpAny_bind (wpAny_mono (turn n s hI) (λr s₁ h₁=>?_) λ_ _ f=>f.elim)))
 cases r with
 |none=>exact wpAny_pure h₁
 |some v=>
  refine wpAny_bind (wpAny_mono h₁ (λ_ s₂ h₂=>?_) λ_ _ f=>f.elim)
  exact wpAny_bind (wpAny_mono h₂ (λ_ s₃ h₃=>wpAny_bind (wpAny_bind (wpAny_mono h₃ (λx s₄ h₄=>wpAny_bind (wpAny_mono h₄ (λ_ s₅ h₅=>wpAny_pure (wpAny_pure ⟨rfl,h₅⟩)) λ_ _ f=>f.elim)) λ_ _ f=>f))) λ_ _ f=>f.elim)
theorem compLoop_any {R:Result->Shared->Prop}(I:Nat->Shared->Prop)
  (turn : ∀n s,I n s->wpAny (model prog w) A (pyNext it) (λr s₁=>match r with
   |none=>R (.ok .next) s₁
   |some v=>wpAny (model prog w) A (letOwnedTupleGo target it v) (λ_ s₂=>wpAny (model prog w) A (assign target env v) (λ_ s₃=>wpAny (model prog w) A (eval elt env) (λx s₄=>
     wpAny (model prog w) A (call (.builtin "list.append") [acc,x]) (λ_ s₅=>∃m,m<n/\I m s₅) (λ_ _=>False) s₄) (λ_ _=>False) s₃) (λ_ _=>False) s₂) (λ_ _=>False) s₁) (λ_ _=>False) s)
  (n:Nat) (h:I n s): codeAny (model prog w) A (.compLoop (.ListComp elt [⟨target,iter,[],0⟩] scope pos) 0 it acc env) R s:=
 compLoop_x I (λn s hI=>wpAny_mono (turn n s hI) (λr s₁ h₁=>by
  cases r with
  |none=>exact h₁
  |some v=>exact wpAny_mono h₁ (λ_ _ h₂=>wpAny_mono h₂ (λ_ _ h₃=>wpAny_mono h₃ (λ_ _ h=>h) λ_ _ f=>f.elim) λ_ _ f=>f) λ_ _ f=>f) λ_ _ f=>f) n h
theorem relabel_lookup (x:Str): (relabel scope env).names.lookup x=(scope.names.lookup x).map λk=>if (k==NameKind.free && env.scope.kind == .function && env.kindOf x==some .cell)=true then NameKind.cell else k:=by
 have key:∀l:List (Str×NameKind),(l.map λ(n,k)=>if (k==NameKind.free && env.scope.kind == .function && env.kindOf n==some .cell) then (n,NameKind.cell) else (n,k)).lookup x =
   (l.lookup x).map λk=>if (k==NameKind.free && env.scope.kind == .function && env.kindOf x==some .cell)=true then NameKind.cell else k:=by
  intro l
  induction l with
  |nil=>rfl
  |cons p l ih=>
   obtain⟨n,k⟩:=p
   rw[List.map_cons]
   by_cases hn:x=n
   .subst hn
    by_cases hc:(k==NameKind.free && env.scope.kind == .function && env.kindOf x==some .cell)=true
    .simp only[hc,if_true,List.lookup_cons,beq_self_eq_true,Option.map_some]
    .simp only[if_neg hc,List.lookup_cons,beq_self_eq_true,Option.map_some]
   .have hb:(x==n)=false:=by simpa using hn
    by_cases hc:(k==NameKind.free && env.scope.kind == .function && env.kindOf n==some .cell)=true
    .simp only[hc,if_true,List.lookup_cons,hb];exact ih
    .simp only[if_neg hc,List.lookup_cons,hb];exact ih
 exact key scope.names
def blkσ (ix:List (Option Nat))(Y:St):St:=ix.map λo=>o.bind λi=>(Y[i]?).join
def CapOf (X:Cx)(scope:Scope):List Str->List (Option Nat)->Prop
 | [],[]=>True
 |_::N,none::ix=>CapOf X scope N ix
 |x::N,some i::ix=>(X.N[i]?=some x/\scope.names.lookup x=some .free/\(X.env.kindOf x=some .cell∨X.env.kindOf x=some .free))/\CapOf X scope N ix
 |_,_=>False
theorem CapOf.get:∀{N:List Str} {ix:List (Option Nat)},CapOf X scope N ix->N.length=ix.length/\∀(j i:Nat),ix[j]?=some (some i)->
  ∃x,N[j]?=some x/\X.N[i]?=some x/\scope.names.lookup x=some .free/\(X.env.kindOf x=some .cell∨X.env.kindOf x=some .free)
 | [],[],_=>⟨rfl,λj i h=>by simp at h⟩
 |x::N,none::ix,h=>by
  obtain⟨h1,h2⟩:=CapOf.get (show CapOf X scope N ix from h)
  refine⟨by simp[h1],λj i e=>?_⟩
  cases j with
  |zero=>simp at e
  |succ j=>simpa using h2 j i e
 |x :: N,some i'::ix,h=>by
  obtain⟨h0,h⟩:=(show _/\CapOf X scope N ix from h)
  obtain⟨h1,h2⟩:=CapOf.get h
  refine⟨by simp[h1],λj i e=>?_⟩
  cases j with
  |zero=>
   simp at e
   subst e
   exact⟨x,rfl,h0⟩
  |succ j=>simpa using h2 j i e
 | [],_::_,h=>h.elim
 |_::_,[],h=>by cases h
structure BlkScope (outer scope:Scope):Prop where
 kind:scope.kind = .function
 cell:∀y∈scope.names,y.2≠.cell
 free:∀y∈scope.names,y.2 = .free->outer.names.lookup y.1=some .cell∨outer.names.lookup y.1=some .free
 names:∀y∈scope.names,y.2 = .local->scope.names.lookup y.1=some .local
abbrev Cx.blk (X:Cx)(scope:Scope)(N:List Str)(fp:List Addr)(s:Shared)(H:Hp):Cx:=
 {X with N:=N,s₀:=s,H₀:=H,env:=compEnvC scope (freeL scope X.env) s.heap.objs.size X.env,outer:=X.stack,ex:=fp,fn:=λ_=>false,pn:=[],xe:=λ_ _=>False}
section
variable {X:Cx}{pins:List (Addr×Obj)}{Y:St}{H:Hp}{s:Shared}{scope:Scope}{N:List Str}{ix:List (Option Nat)}{fp:List Addr}
theorem blk_cell (ok:X.Ok)(S:BlkScope X.env.scope scope)(h:(freeL scope X.env).lookup x=some c): X.env.cells.lookup x=some c:=by
 rw[freeL_lookup]at h
 split at h
 .rename_i ha
  obtain⟨y,hy,e⟩:=List.any_eq_true.mp ha
  rw[Bool.and_eq_true,beq_iff_eq,beq_iff_eq]at e
  obtain⟨e1,e2⟩:=e
  subst e1
  obtain⟨c',hc'⟩:=ok.has y.1 (S.free y hy e2)
  rw[hc']at h ⊢
  exact h
 .cases h
theorem blk_free (ok:X.Ok)(h:scope.names.lookup x=some .free)(hk:X.env.kindOf x=some .cell∨X.env.kindOf x=some .free): ∃c,(freeL scope X.env).lookup x=some c/\X.env.cells.lookup x=some c:=by
 obtain⟨c,hc⟩:=ok.has x hk
 refine⟨c,?_,hc⟩
 rw[freeL_lookup,if_pos,hc]
 .rfl
 .exact List.any_eq_true.mpr ⟨(x,.free),PySem.mem_of_lookup h,by simp⟩
theorem Inv.blkOk (I:Inv X pins Y H s)(S:BlkScope X.env.scope scope)(hf:∀b∈fp,FpOk X pins H b)(hlt:∀b∈fp,b<s.heap.objs.size): (X.blk scope N fp s H).Ok where
 mod:=I.ok.mod
 kind:=S.kind
 glob:=I.ok.glob
 blt:=I.ok.blt
 above:=Nat.le_refl _
 inj:=λx y c h1 h2=>I.ok.inj x y c (blk_cell I.ok S h1) (blk_cell I.ok S h2)
 has := λx hx=>by
  have hx':(relabel scope X.env).names.lookup x=some .cell∨(relabel scope X.env).names.lookup x=some .free:=hx
  rw[relabel_lookup]at hx'
  cases e:scope.names.lookup x with
  |none=>rw[e]at hx';simp at hx'
  |some k=>
   have hm:=PySem.mem_of_lookup e
   have hk:k = .free:=by
    by_cases hk:k = .free
    .exact hk
    .exfalso
     have hb:(k==NameKind.free)=false:=by simpa using hk
     have hc:k≠.cell:=S.cell _ hm
     have e2:(if (k==NameKind.free && X.env.scope.kind == .function && X.env.kindOf x==some .cell)=true then NameKind.cell else k)=k:=if_neg (by rw[hb,Bool.false_and];exact Bool.false_ne_true)
     rw[e,Option.map_some,e2]at hx'
     rcases hx' with z |z
     .exact hc (Option.some.inj z)
     .exact hk (Option.some.inj z)
   subst hk
   obtain⟨c,h1,_⟩:=blk_free I.ok e (S.free _ hm rfl)
   exact⟨c,h1⟩
 cab:=λx c h _=>by cases h
 hd:=I.ok.hd
 frames:=I.ok.frames
 stk:=.inl rfl
 exf:=λb hb=>⟨Nat.ne_of_lt (hlt b hb),λx c h=>(hf b hb).2.2.2.2.1 x c (blk_cell I.ok S h)⟩
 bs:=I.bs
 bsz:=Nat.le_trans I.ok.bsz I.sz
 noex:=λb o e hb=>by
  rcases (hf b hb).2.2.2.1 with z |z
  .exact I.ok.noex b o e z
  .exact absurd (Nat.lt_of_lt_of_le (Heap.lt_size e) (Nat.le_trans I.ok.bsz z)) (Nat.lt_irrefl _)
 exfs:=λb hb h=>by
  rcases List.mem_cons.mp (I.stkSub b h) with z |z
  .exact (hf b hb).2.1 z
  .exact (hf b hb).2.2.1 z
 funs:=I.stack
 frf:=I.stkFree
theorem Inv.blk {m:Str->Option Value}(I:Inv X pins Y H s)(S:BlkScope X.env.scope scope)(cap:CapOf X scope N ix)(hf:∀b∈fp,FpOk X pins H b)(hlt:∀b∈fp,b<s.heap.objs.size)
  (hns:h₁.Ns s.heap.objs.size m) (hsb:Heap.SameBut s.heap.objs.size (s.heap.push o) h₁): Inv (X.blk scope N fp s H) [] (blkσ ix Y) H {s with heap:=h₁,toks:=t}:=by
 have keep:∀b o,s.heap.get? b=some o->h₁.get? b=some o:=λb o e=>hsb.extBut b o (Nat.ne_of_lt (Heap.lt_size e)) (Heap.get?_push_of_some _ e)
 obtain⟨hl,hcap⟩:=cap.get
 refine⟨I.blkOk S hf hlt,rfl,I.bare,Un.kept keep,⟨m,hns,λj x v e1 e2 e3=>?_⟩,λx c e=>?_,I.hok.fresh (Nat.le_refl _),λx c e=>I.freeC x c (blk_cell I.ok S e),λp hp=>absurd (show p∈([]:List (Addr×Obj)) from hp) (by simp),I.hok.kept keep,by unfold blkσ;rw[List.length_map];exact hl.symm⟩
 .obtain ⟨i,h1,h2⟩:∃i,ix[j]?=some (some i)/\Y[i]?=some (some v):=by
   unfold blkσ at e2
   rw[List.getElem?_map]at e2
   cases q:ix[j]? with
   |none=>rw[q]at e2;cases e2
   |some o=>
    rw[q]at e2
    cases o with
    |none=>simp at e2
    |some i=>
     refine⟨i,rfl,?_⟩
     cases q2:Y[i]? with
     |none=>simp[q2]at e2
     |some o2=>simp[q2]at e2;rw[e2]
  obtain⟨y,n1,n2,n3,n4⟩:=hcap j i h1
  have hxy:x=y:=by rw[e1]at n1;exact Option.some.inj n1
  subst hxy
  obtain⟨m',hn',hl'⟩:=I.loc
  have vis:Vis X.env.scope x:=by rcases n4 with k |k;exact .inr (.inl k);exact .inr (.inr k)
  obtain⟨u,r,l⟩:=hl' i x v n2 h2 vis
  refine⟨u,r,.inr ⟨?_,?_⟩⟩
  .show (relabel scope X.env).names.lookup x=some .cell∨(relabel scope X.env).names.lookup x=some .free
   rw[relabel_lookup,n3]
   by_cases hc:(NameKind.free==NameKind.free && X.env.scope.kind == .function && X.env.kindOf x==some .cell)=true
   .left;simp only[Option.map_some,if_pos hc]
   .right;simp only[Option.map_some,if_neg hc]
  .obtain ⟨c,c1,c2⟩:=blk_free I.ok n3 n4
   refine⟨c,c1,?_⟩
   rcases l with⟨hk,_⟩ | ⟨_,c',hc',z⟩
   .rcases n4 with k |k
    .rw [hk]at k;cases k
    .rw [hk]at k;cases k
   .rw [c2]at hc';cases hc'
    obtain⟨ob,ho,hd⟩:=z
    exact⟨ob,keep _ _ ho,hd⟩
 .obtain ⟨v,ob,ho,hd⟩:=I.cell x c (blk_cell I.ok S e)
  exact⟨v,ob,keep _ _ ho,hd⟩
theorem Inv.unblk (I:Inv X pins Y H s)(hf:∀b∈fp,FpOk X pins H b)(J:Inv (X.blk scope N fp s H) pins' Y' H' s'): Inv X pins Y H' s':=
 I.call' J.os J.base J.hok J.bare λb hb=>⟨(hf b hb).2.2.2.1,(hf b hb).2.1,(hf b hb).2.2.2.2.1,(hf b hb).2.2.2.2.2⟩
theorem Inv.frameGone (I:Inv X pins Y H s)(f:FpOk X pins H C)(hs:Heap.SameBut C s.heap h'): Inv X pins Y H {s with heap:=h'}:=
 I.turned (t':=s.toks) (λb o hb e=>hs.extBut b o hb e) f.1 f.2.1 f.2.2.2.1 f.2.2.2.2.1 f.2.2.2.2.2
end
def CompW (J:It)(D:Addr)(g:TG)(te:TE)(Y₀:St)(H₀:Hp)(fin:Hp->Prop):Prop:=
 ∃W:Nat->Nat->St->List V->Hp->Prop,(∃m,W 0 m Y₀ [] H₀)/\∀i m Y ys H,W i m Y ys H->
  (J.stop i H/\fin H)∨(ys.length<sizeLine/\J.go i H/\∀x H',J.yld i H x H'->g x Y H' λY2 H2=>te Y2 H2 λy H3=>H3 D=some (.lst ys)/\∃m',m'<m/\W (i+1) m' Y2 (ys++[y]) (upd H3 D (.lst (ys++[y]))))
def tComp (wi:TI)(ix:List (Option Nat))(g:TG)(te:TE):TE:=λY H Q=>wi Y H λJ H1=>∀D,H1 D=none->CompW J D g te (blkσ ix Y) (upd H1 D (.lst [])) λH'=>Q (.ref D) H'
section
variable {X:Cx}{tg elt iter:Expr}{scope:Scope}{N:List Str}{ix:List (Option Nat)}{wi:TI}{g:TG}{te:TE}{pos:Pos}
theorem comp_coreG {RR:Value->Addr->Result->Shared->Prop}(hc:X.calm=true)(hi:PI X tg iter wi)(S:BlkScope X.env.scope scope)(cap:CapOf X scope N ix)
  (hg:∀fp s H,PG (X.blk scope N fp s H) tg g) (I:Inv X pins Y H s) (h:tComp wi ix g te Y H Q)
  (he:∀D fp s3 H3 pins' s7 Y7 H7 Q',Inv X pins Y H3 s3->(∀b∈fp,FpOk X pins H3 b)->Inv (X.blk scope N fp s3 H3) pins' Y7 H7 s7->te Y7 H7 Q'->wpAny (model X.prog X.w) X.A (eval elt (compEnvC scope (freeL scope X.env) s3.heap.objs.size X.env)) (EP (X.blk scope N fp s3 H3) pins' Y7 Q') (notedBy (model X.prog X.w) X.A (compEnvC scope (freeL scope X.env) s3.heap.objs.size X.env) λe s'=>RR (.ref D) s3.heap.objs.size (.error e) s') s7)
  (hRR:∀D C H' s',Inv X pins Y H' s'->FpOk X pins H' C->(∃m,s'.heap.Ns C m)->Q (.ref D) H'->RR (.ref D) C (.ok .next) s'):
  wpAny (model X.prog X.w) X.A (eval iter X.env) (λx s₁=>wpAny (model X.prog X.w) X.A (pyIter x) (λit s₂=>wpAny (model X.prog X.w) X.A (newList []) (λacc s₃=>
   wpAny (model X.prog X.w) X.A (newFunctionEnv scope X.env.globals (freeL scope X.env) [] X.env.qual none .none (some X.env)) (λcenv s₄=>
    codeAny (model X.prog X.w) X.A (.compStart (.ListComp elt [⟨tg,iter,[],0⟩] scope pos) 0 it acc {cenv with scope:=relabel scope X.env}) (RR acc cenv.locals) s₄) X.xe s₃) X.xe s₂) X.xe s₁) X.xe s:=by
 refine thn (hi pins s Y H _ I h) λv s1 h1=>thn h1 λitv s2 h2=>?_
 obtain⟨it,fp,tn,J,H2,e,I2,T,st2,f2,R⟩:=h2
 subst e
 refine wpAny_newObj_type (wpAny_newFunctionEnv S.cell (by intro y hy;simp at hy) (λh₁ hns₁ hsb₁=>?_) S.kind)
 dsimp only at hns₁ hsb₁ ⊢
 have I3:Inv X pins Y (upd H2 s2.heap.objs.size (.lst [])) {s2 with heap:=s2.heap.push {cls:=.type "list",data:=.seq ([]:List Value).toArray},toks:=s2.toks}:=I2.lnew .nil (Nat.zero_le _)
 have hD:H2 s2.heap.objs.size=none:=I2.fresh
 have lt2:∀b∈fp,b<s2.heap.objs.size:=λb hb=>by obtain⟨o,e,_⟩:=T.obj 0 _ st2 b hb;exact Heap.lt_size e
 obtain⟨W,⟨m0,w0⟩,turn⟩:=R s2.heap.objs.size hD
 generalize hs3:({s2 with heap:=s2.heap.push {cls:=.type "list",data:=.seq ([]:List Value).toArray},toks:=s2.toks}:Shared)=s3 at I3
 have e3:s3.heap=s2.heap.push {cls:=.type "list",data:=.seq ([]:List Value).toArray}:=by rw[<- hs3]
 have sz3:s3.heap.objs.size=s2.heap.objs.size+1:=by rw[e3,Heap.size_push]
 have f3:∀b∈fp,FpOk X pins (upd H2 s2.heap.objs.size (.lst [])) b:=λb hb=>⟨by rw[upd_ne (Nat.ne_of_lt (lt2 b hb))];exact (f2 b hb).1,(f2 b hb).2⟩
 have lt3:∀b∈fp,b<s3.heap.objs.size:=λb hb=>by rw[sz3];exact Nat.lt_succ_of_lt (lt2 b hb)
 have hns₁':=hns₁
 rw[<- e3]at hns₁'
 have hsb₁':=hsb₁
 rw[<- e3]at hsb₁'
 have J0:=I3.blk (t:=s2.toks+([]:List (Str×Value)).length) S cap f3 lt3 hns₁' hsb₁'
 have keep1:∀b o,s2.heap.get? b=some o->h₁.get? b=some o:=λb o e=>hsb₁.extBut b o (by rw[Heap.size_push];exact Nat.ne_of_lt (Nat.lt_succ_of_lt (Heap.lt_size e))) (Heap.get?_push_of_some _ (Heap.get?_push_of_some _ e))
 have st1:tn 0 h₁:=T.keep 0 _ _ st2 λb _ o e=>keep1 b o e
 have stat:∀{H':Hp},(∀b∈fp,H' b=none)->∀b∈fp,FpOk (X.blk scope N fp s3 (upd H2 s2.heap.objs.size (.lst []))) [] H' b:=λ{H'} hn b hb=>by
  refine⟨hn b hb,Nat.ne_of_lt (lt3 b hb),λz=>?_,.inl hb,λx c e=>(f2 b hb).2.2.2.2.1 x c (blk_cell I.ok S e),λp hp=>absurd (show p∈([]:List (Addr×Obj)) from hp) (by simp)⟩
  rcases List.mem_cons.mp (I3.stkSub b z) with y |y
  .exact (f2 b hb).2.1 y
  .exact (f2 b hb).2.2.1 y
 have loop:∀s4:Shared,s4={s3 with heap:=h₁,toks:=s2.toks+([]:List (Str×Value)).length}->
   codeAny (model X.prog X.w) X.A (.compLoop (.ListComp elt [⟨tg,iter,[],0⟩] scope pos) 0 (.ref it) (.ref s2.heap.objs.size) (compEnvC scope (freeL scope X.env) s3.heap.objs.size X.env)) (RR (.ref s2.heap.objs.size) s3.heap.objs.size) s4:=by
  rintro s4 rfl
  refine compLoop_x (λn s'=>∃i Y' ys H',Inv (X.blk scope N fp s3 (upd H2 s2.heap.objs.size (.lst []))) [] Y' H' s'/\tn i s'.heap/\(∀b∈fp,H' b=none)/\W i n Y' ys H') ?_ m0 ⟨0,_,[],_,J0,st1,λb hb=>(f3 b hb).1,w0⟩
  rintro n s' ⟨i,Y',ys,H',I',st',fr',w'⟩
  rcases turn i n Y' ys H' w' with⟨stop,fin⟩ | ⟨hy,go,step⟩
  .refine thn (T.done (X.blk scope N fp s3 (upd H2 s2.heap.objs.size (.lst []))) rfl rfl rfl hc i [] s' Y' H' _ I' (stat fr') st' stop) λr s5 ⟨hr,I5⟩=>?_
   subst hr
   obtain⟨m,hn,_⟩:=I5.loc
   exact hRR _ _ H' s5 (I3.unblk f3 I5) (I3.fpOk (Nat.le_refl _) I5.free) ⟨m,hn⟩ fin
  .refine thn (T.item (X.blk scope N fp s3 (upd H2 s2.heap.objs.size (.lst []))) rfl rfl rfl hc i [] s' Y' H' _ I' (stat fr') st' go) λr s5 ⟨u,hr,h5⟩=>?_
   subst hr
   refine thn h5 λ_ s6 ⟨x,H6,I6,r6,y6,st6,fr6⟩=>?_
   have I6':=I6.pinned (stat fr6) (T.obj _ _ st6)
   refine thn (hg fp s3 _ _ s6 Y' H6 x u _ I6' r6 (step x H6 y6)) λ_ s7 ⟨Y7,H7,I7,q7⟩=>?_
   refine wpAny_mono (he s2.heap.objs.size fp s3 _ _ s7 Y7 H7 _ I3 f3 I7 q7) (λyv s8 ⟨y,H8,I8,r8,hl8,m',hm',w8⟩=>?_) λ_ _ z=>z
   refine thn (mt_append _ s8 Y7 H8 (.ref s2.heap.objs.size) [y] (.ref s2.heap.objs.size) [yv] (λ_ H9=>H9=upd H8 s2.heap.objs.size (.lst (ys++[y]))) I8 rfl (.cons r8 .nil) ⟨_,ys,y,rfl,rfl,hl8,hy,rfl⟩) λ_ s9 ⟨_,H9,I9,_,e9⟩=>?_
   subst e9
   refine⟨m',hm',i+1,Y7,ys++[y],_,I9.unpinned,T.keep _ _ _ st6 λb hb o e=>(I9.pin (b,o) (List.mem_append_right _ (List.mem_append_right _ (mem_pinsAt hb e)))).1,λb hb=>?_,w8⟩
   obtain⟨o,e,_⟩:=T.obj _ _ st6 b hb
   exact (I9.pin (b,o) (List.mem_append_right _ (List.mem_append_right _ (mem_pinsAt hb e)))).2.1
 have fin:=loop _ rfl
 rw[<- hs3]at fin
 exact codeAny_compStart_list fin (T.self _ 0 _ _ _ st1 fin)
theorem comp_core {RR:Value->Addr->Result->Shared->Prop}(hc:X.calm=true)(hi:PI X tg iter wi)(S:BlkScope X.env.scope scope)(cap:CapOf X scope N ix)
  (hg:∀fp s H,PG (X.blk scope N fp s H) tg g) (he:∀fp s H,PE (X.blk scope N fp s H) elt te) (I:Inv X pins Y H s) (h:tComp wi ix g te Y H Q)
  (hRR:∀D C H' s',Inv X pins Y H' s'->FpOk X pins H' C->(∃m,s'.heap.Ns C m)->Q (.ref D) H'->RR (.ref D) C (.ok .next) s'):
  wpAny (model X.prog X.w) X.A (eval iter X.env) (λx s₁=>wpAny (model X.prog X.w) X.A (pyIter x) (λit s₂=>wpAny (model X.prog X.w) X.A (newList []) (λacc s₃=>
   wpAny (model X.prog X.w) X.A (newFunctionEnv scope X.env.globals (freeL scope X.env) [] X.env.qual none .none (some X.env)) (λcenv s₄=>
    codeAny (model X.prog X.w) X.A (.compStart (.ListComp elt [⟨tg,iter,[],0⟩] scope pos) 0 it acc {cenv with scope:=relabel scope X.env}) (RR acc cenv.locals) s₄) X.xe s₃) X.xe s₂) X.xe s₁) X.xe s:=
 comp_coreG hc hi S cap hg I h (λD fp s3 H3 pins' s7 Y7 H7 Q' _ _ I7 q=>wpAny_mono (he fp s3 H3 pins' s7 Y7 H7 Q' I7 q) (λ_ _ z=>z) λ_ _ z=>z.elim) hRR
theorem blk_clos (S:BlkScope X.env.scope scope)(ok:X.Ok): closureFor scope X.env=pure (freeL scope X.env):=closureFor_free λx hx e=>ok.has x.1 (S.free x hx e)
theorem pe_comp (hc:X.calm=true)(hi:PI X tg iter wi)(S:BlkScope X.env.scope scope)(cap:CapOf X scope N ix)(hg:∀fp s H,PG (X.blk scope N fp s H) tg g)(he:∀fp s H,PE (X.blk scope N fp s H) elt te)
  (hs:∀x,foldedSetIterable iter X.env x=pure x:=by intro _;rfl): PE X (.ListComp elt [⟨tg,iter,[],0⟩] scope pos) (tComp wi ix g te):=by
 intro pins s Y H Q I h
 refine wpAny_comprehension_free rfl hs (blk_clos S I.ok) S.kind S.names (comp_core (RR:=λacc C=>compPost (model X.prog X.w) X.A X.xe none (EP X pins Y Q) acc C) hc hi S cap hg he I h λD C H' s' I' f' hn q=>?_)
 obtain⟨m,hn⟩:=hn
 exact⟨m,hn,λh' hs'=>⟨.ref D,H',I'.frameGone f' hs',rfl,q⟩⟩
theorem ps_setComp (hN:X.N.Nodup)(hiN:X.N[i]?=some y)(hy:Loc X.env.scope y)(hc:X.calm=true)(hi:PI X tg iter wi)(S:BlkScope X.env.scope scope)(cap:CapOf X scope N ix)
  (hg:∀fp s H,PG (X.blk scope N fp s H) tg g) (he:∀fp s H,PE (X.blk scope N fp s H) elt te)
  (hsw:swapsWith (.ListComp elt [⟨tg,iter,[],0⟩] scope pos) (some (.Name y py)) spos.line X.env=pure true:=by rfl)
  (hs:∀x,foldedSetIterable iter X.env x=pure x:=by intro _;rfl) (hf:X.fn y=true∨X.env.scope.names.lookup y=some .local:=by first |exact .inl rfl |exact .inr rfl |assumption):
  PS X (.Assign [.Name y py] (.ListComp elt [⟨tg,iter,[],0⟩] scope pos) spos) (tAsg (tComp wi ix g te) (gName i)):=by
 intro pins s Y H D I h
 rw[exec_Assign_Name_used _ _ _ _ hsw]
 refine wpAny_bind (wpAny_standAt (wpAny_bind ?_))
 refine wpAny_bind (wpAny_mono (wpAny_comprehension_free (use:=some (assign (.Name y py) X.env)) (Q:=λ_ s'=>SP X pins D .next s') rfl hs (blk_clos S I.ok) S.kind S.names
  (comp_core (RR:=λacc C=>compPost (model X.prog X.w) X.A X.xe (some (assign (.Name y py) X.env)) (λ_ s'=>SP X pins D .next s') acc C) hc hi S cap hg he I h λl C H' s' I' f' hn q=>?_)) (λ_ s' hq=>wpAny_pure (wpAny_pure hq)) λ_ _ e=>e)
 obtain⟨m,hn⟩:=hn
 refine wpAny_assign_Name (store_ok2 (v:=.ref l) I' hN hiN hy rfl (λs'' I'' ⟨a,hsb,ha⟩=>?_) hf)
 have hCa:C≠a:=by
  rcases ha with z |z
  .rw [z];exact f'.2.1
  .exact Ne.symm (f'.2.2.2.2.1 y a z)
 exact⟨m,hn.sameBut hsb hCa,λh' hs'=>⟨_,H',I''.frameGone f' hs',q⟩⟩
end
section
variable {X:Cx}
set_option exponentiation.threshold 5000 in
def rMaxL (K:Frag):List V->Hp->VK->Prop:=λxs H Q=>∃(l:Addr) (ns:List Int),xs=[.ref l]/\SqL K H l (ns.map V.int)/\0<ns.length/\∀M,M∈ns->(∀a,a∈ns->a<=M)->Q (.int M) H
theorem call_maxL (hc:X.calm=true):CallR X (.builtin "max") (rMaxL X.K):=by
 intro pins s Y H xs us Q I r h
 obtain⟨l,ns,rfl,hq,hne,q⟩:=h
 obtain⟨u,rfl,ru⟩:=vals1 r
 cases ru
 obtain⟨its,rv,pl,hz⟩:=I.list hq
 have hi:IntsAre its ns:=intsAre_of rv
 have hl:=pl.isList
 obtain⟨ys,e⟩:=hi.allInts.items
 have hns:ns=ys.toList.map (·.1):=by rw[<- hi.numsOf,<- nums_intItems,<- e]
 have hsz:0<ys.size:=by
  have h3:=hne;rw[hns,List.length_map]at h3;exact h3
 rw[e]at hl
 refine max_intList (I.ok.hd hc) hl hsz λv h' tk hv hk=>?_
 obtain⟨t,rfl⟩:=intItems_at hv
 obtain⟨h1,h2⟩:=argBest_gt (numAt ys) (ys.size-1)
 refine⟨.int _,H,I.kept hk,⟨t,rfl⟩,q _ ?_ λa ha=>?_⟩
 .rw [hns,numAt_eq];exact getD_mem (by rw[List.length_map,Array.length_toList];omega)
 .rw [hns]at ha
  obtain⟨j,hj,rfl⟩:=mem_getD ha
  rw[List.length_map,Array.length_toList]at hj
  rw[<- numAt_eq];exact h2 j (by lia)
def rGetL (K:Frag):V->V->Hp->VK->Prop:=λx y H Q=>∃p xs i v,x = .ref p/\y = .int i/\SqL K H p xs/\0<=i/\xs[i.toNat]?=some v/\Q v H
theorem get_listV:PGet X (rGetL X.K):=by
 intro pins s Y H o i ov iv Q I ro ri h
 obtain⟨p,xs,k,v,rfl,rfl,hq,h0,hx,q⟩:=h
 cases ro
 obtain⟨t,rfl⟩:=ri
 obtain⟨its,r,pl,hz⟩:=I.list hq
 obtain⟨w',ew,rw'⟩:=r.get hx
 have hn:=line63
 have hlt:k.toNat<xs.length:=(List.getElem?_eq_some_iff.mp hx).1
 exact wpAny_getItem_list pl.isList h0 (by lia) (by simpa using ew) ⟨v,H,I,rw',q⟩
end
section
variable {X:Cx}
theorem CallR.imp {f:Value}{r r':List V->Hp->VK->Prop}(h:CallR X f r)(hi:∀xs H Q,r' xs H Q->r xs H Q):CallR X f r':=λpins s Y H xs us Q I rs q=>h pins s Y H xs us Q I rs (hi xs H Q q)
def rListS (K:Frag):List V->Hp->VK->Prop:=λxs H Q=>∃p ys,xs=[.ref p]/\(SqL K H p ys∨SqT K H p ys)/\∀l H',H l=none->Same H H'->H' l=some (.lst ys)->Q (.ref l) H'
theorem call_listS:CallR X (.type "list") (rListS X.K):=call_list_of.imp λxs H Q ⟨p,ys,e,h,q⟩=>⟨p,ys,e,h,λl hl=>q l _ hl (Same.new hl) Xa0⟩
def rSlS (K:Frag):V->Option Int->Option Int->Hp->VK->Prop:=λx lo hi H Q=>∃a xs,x = .ref a/\SqL K H a xs/\∀p H',H p=none->Same H H'->H' p=some (.lst (cutV xs lo hi))->Q (.ref p) H'
theorem SlR.imp {r r':V->Option Int->Option Int->Hp->VK->Prop}(h:SlR X r)(hi:∀x lo hi H Q,r' x lo hi H Q->r x lo hi H Q):SlR X r':=λpins s Y H x v vl vu lo hi' sl Q I rx hs pl pu q=>h pins s Y H x v vl vu lo hi' sl Q I rx hs pl pu (hi _ _ _ _ _ q)
theorem sl_listS:SlR X (rSlS X.K):=sl_list.imp λx lo hi H Q ⟨a,xs,e,h,q⟩=>⟨a,xs,e,h,λp hp=>q p _ hp (Same.new hp) Xa0⟩
end
end L2
namespace PySem
namespace F
theorem lwrev_owner:Manifest.owners.lookup (String.ofList ['d','e','s','r','e','v','e','r'].reverse)=some Manifest.sig_reversed:=by kernel_rfl
theorem lwrev_next:Slot "reversed" "__next__" "reversed.__next__":=
 .of (owner := "reversed") (n := "__next__") (by rw[typeLookup_type,builtinLookup_eq_fast];kernel_rfl) (by decide +kernel) (by decide +kernel) (by decide +kernel)
  (by first |exact .inl (by decide +kernel) |exact .inr (by decide +kernel)) (by rw[isSubtype_type];kernel_rfl)
theorem lwrev_entry:entryFor table "reversed.__next__"=some Builtin.«reversed.__next__»:=entryFor_of_tree (by kernel_rfl)
theorem lwrev_args (a:Value):argsOk "reversed.__next__" ⟨[a],[]⟩:=by
 unfold argsOk;rw[signature?_of (id := "reversed.__next__") (n:=['_','_','t','x','e','n','_','_']) (o:=['d','e','s','r','e','v','e','r']) (by kernel_rfl) lwrev_owner];kernel_rfl
theorem lwrev_iter:Slot "reversed" "__iter__" "reversed.__iter__":=
 .of (owner := "reversed") (n := "__iter__") (by rw[typeLookup_type,builtinLookup_eq_fast];kernel_rfl) (by decide +kernel) (by decide +kernel) (by decide +kernel)
  (by first |exact .inl (by decide +kernel) |exact .inr (by decide +kernel)) (by rw[isSubtype_type];kernel_rfl)
theorem lwrev_iargs (a:Value):argsOk "reversed.__iter__" ⟨[a],[]⟩:=by
 unfold argsOk;rw[signature?_of (id := "reversed.__iter__") (n:=['_','_','r','e','t','i','_','_']) (o:=['d','e','s','r','e','v','e','r']) (by kernel_rfl) lwrev_owner];kernel_rfl
theorem lwrev_ientry:entryFor table "reversed.__iter__"=some Builtin.«dict_keyiterator.__iter__»:=
 entryFor_alias (id' := "dict_keyiterator.__iter__") (by kernel_rfl) (by first |rfl |decide +kernel | (unfold String.splitOn;simp +decide [String.splitOnAux])) (by decide +kernel) (by kernel_rfl)
theorem lwrev_mro:mroOf (.type "reversed")=pure [.type "reversed",.type "object"]:=by rw[mroOf_type];kernel_rfl
theorem lwrev_newAt:typeLookup (.type "reversed") "__new__"=pure (some (.builtin "reversed.__new__")):=by rw[typeLookup_type,builtinLookup_eq_fast];kernel_rfl
theorem lwrev_made:Bind.madeBy (.type "reversed")=pure (some "reversed.__new__"):=madeBy_type lwrev_mro lwrev_newAt (by decide +kernel)
theorem lwrev_typeCall (a:Value):checkTypeCall "reversed" ⟨[a],[]⟩=pure ():=by kernel_rfl
theorem lwrev_newCall (a:Value):checkBuiltinCall "reversed.__new__" ⟨[.type "reversed",a],[]⟩=pure ():=by kernel_rfl
theorem lwrev_newEntry:entryFor table "reversed.__new__"=some Builtin.«reversed.__new__»:=entryFor_of_tree (by kernel_rfl)
theorem lwrev_plain:plainId "reversed.__new__"=true:=by decide +kernel
theorem lwrev_create:((Manifest.find? "reversed").bind (·.mro.findSome? λt=>(Manifest.find? t).bind λb=>if b.noNew then some true else if b.attrs.any (·.1 == "__new__") then some false else none)).getD false=false:=by decide +kernel
theorem lwrev_sub:isSubtype (.type "reversed") (.type "reversed")=pure true:=by rw[isSubtype_type];kernel_rfl
theorem lwrev_noRev:typeLookup (.type "tuple") "__reversed__"=pure none:=by rw[typeLookup_type,builtinLookup_eq_fast];kernel_rfl
theorem lwrev_noDict:isSubtype (.type "tuple") (.type "dict")=pure false:=by rw[isSubtype_type];kernel_rfl
end F
section
variable {prog:Program}{w:World}{A:Around}{E:Value->Shared->Prop}{s:Shared}
def lwrevObj (t:Addr)(i:Int):Obj:={cls:=.type "reversed",data:=.fields #[.ref t,rawInt i]}
def Heap.LwRev (h:Heap)(a t:Addr)(i:Int):Prop:=h.get? a=some (lwrevObj t i)
theorem Heap.LwRev.typeIs {a t:Addr}{i:Int}(x:s.heap.LwRev a t i):s.TypeIs (.ref a) "reversed":=⟨_,x,rfl⟩
theorem lwrev_newClass (a:Value):Builtin.SmallTypes.newClass "reversed" ⟨[.type "reversed",a],[]⟩=pure (.type "reversed",[a]):=by
 unfold Builtin.SmallTypes.newClass
 simp only[isType,F.lwrev_sub,pure_bind,Bool.not_true,Bool.false_eq_true,if_false]
theorem F.lwrev_init:Slot "reversed" "__init__" "object.__init__":=
 .of (owner := "object") (n := "__init__") (by rw[typeLookup_type,builtinLookup_eq_fast];kernel_rfl) (by decide +kernel) (by decide +kernel) (by decide +kernel)
  (by first |exact .inl (by decide +kernel) |exact .inr (by decide +kernel)) (by rw[isSubtype_type];kernel_rfl)
theorem F.lwrev_initArgs (obj a:Value):argsOk "object.__init__" ⟨[obj,a],[]⟩:=by
 first |exact F.initArgs_range_1 obj a | (unfold argsOk;kernel_rfl)
theorem F.lwrev_called:TypeCalled "reversed" "reversed.__new__" "object.__init__":=⟨by decide +kernel,F.lwrev_create,⟨_,_,F.lwrev_mro⟩,F.lwrev_made,F.lwrev_plain,F.lwrev_sub,F.lwrev_init⟩
theorem lwrev_in (t:Addr)(items:Array Value):
  MeetsIn prog w (Builtin.«reversed.__new__» ⟨[.type "reversed",.ref t],[]⟩) (λA R s=>(s.heap.IsTuple t items/\items.size<=sizeLine)/\∀tk,R (.ok (.ret (.ref s.heap.objs.size))) {s with heap:=s.heap.push (lwrevObj t ((items.size:Int)-1)),toks:=tk}):=
 .of_wp λA R s h=>by
  obtain⟨⟨ht,hz⟩,h⟩:=h
  have hT:s.TypeIs (.ref t) "tuple":=PyProof.Rows.IsTup.typeIs ht
  unfold Builtin.«reversed.__new__»
  refine wpAny_bind (wpAny_of_eq (lwrev_newClass _) ?_)
  try dsimp only
  refine wpAny_bind (wpAny_of_eq (a:=()) (by first |rfl |kernel_rfl) ?_)
  refine wpAny_bind (wpAny_of_eq (a:=()) (by first |rfl |kernel_rfl) ?_)
  try dsimp only
  refine wpAny_bind (wpAny_specialOf hT F.lwrev_noRev ?_)
  try dsimp only
  refine wpAny_bind ?_
  show wpAny _ _ (isInstance (.ref t) (.type "dict") >>= _) _ _ s
  refine wpAny_bind (wpAny_isInstance hT F.lwrev_noDict ?_)
  show wpAny _ _ (specialOf (.ref t) "__getitem__" >>= _) _ _ s
  refine wpAny_bind (wpAny_specialOf hT PyProof.Rows.slot_tuple_getitem.lookup ?_)
  show wpAny _ _ (if (["tuple.__getitem__","str.__getitem__","bytes.__getitem__","bytearray.__getitem__","memoryview.__getitem__","numpy.ndarray.__getitem__","sqlite3.Row.__getitem__"].contains "tuple.__getitem__")=true then pure true else _) _ _ s
  rw[if_pos (by decide)]
  refine wpAny_pure ?_
  show wpAny _ _ (if (!true)=true then _ else _) _ _ s
  rw[if_neg (by decide)]
  have hn:(sizeLine:Nat)<2^63:=by rw[sizeLine_eq];decide
  refine wpAny_bind (PyProof.Rows.len_tuple ht (by lia) ?_)
  refine wpAny_bind (wpAny_of_eq (a:=some (items.size:Int)) rfl ?_)
  show wpAny _ _ (Builtin.SmallTypes.newRecord (.type "reversed") [.ref t,rawInt ((items.size:Int)-1)] >>= _) _ _ _
  refine wpAny_bind ?_
  show wpAny _ _ (newObj (.type "reversed") (.fields #[.ref t,rawInt ((items.size:Int)-1)])) _ _ _
  refine wpAny_newObj_type ?_ (by size_fits)
  exact wpAny_pure ⟨_,rfl,h _⟩
theorem call_reversed_tuple {t:Addr}{items:Array Value}{Q:Value->Shared->Prop}(ht:s.heap.IsTuple t items)(hz:items.size<=sizeLine)
  (h:∀tk,Q (.ref s.heap.objs.size) {s with heap:=s.heap.push (lwrevObj t ((items.size:Int)-1)),toks:=tk}):wpAny (model prog w) A (call (.type "reversed") [.ref t]) Q E s:=
 callType_newIn F.lwrev_called (by decide) (F.lwrev_typeCall _) (F.lwrev_newCall _) (λobj=>F.lwrev_initArgs obj _) F.lwrev_newEntry (lwrev_in t items) ⟨⟨ht,hz⟩,λtk=>⟨⟨_,Heap.get?_push_size _ rfl,rfl⟩,h tk⟩⟩
theorem lwrev_item {it t:Addr}{i:Nat}{items:Array Value}{x:Value}{Q:Option Value->Shared->Prop}(hit:s.heap.LwRev it t (i:Int))(ht:s.heap.IsTuple t items)(hz:items.size<=sizeLine)(hx:items[i]?=some x)
  (hQ:∀h' tk,h'.LwRev it t ((i:Int)-1)->Heap.SameBut it s.heap h'->Q (some x) {s with heap:=h',toks:=tk}):wpAny (model prog w) A (pyNext (.ref it)) Q E s:=by
 have hT:s.TypeIs (.ref t) "tuple":=PyProof.Rows.IsTup.typeIs ht
 have hn:(sizeLine:Nat)<2^63:=by rw[sizeLine_eq];decide
 have hi:i<items.size:=(Array.getElem?_eq_some_iff.mp hx).1
 unfold pyNext
 refine wpAny_bind (wpAny_attempt (wpAny_callSpecial?_slot (name:=Str.ofString "__next__") hit.typeIs F.lwrev_next
  (wpAny_call_entry F.lwrev_next hit.typeIs F.lwrev_entry ?_ (F.lwrev_args _))))
 unfold Builtin.«reversed.__next__»
 refine wpAny_bind (wpAny_of_eq (a:=(Value.ref it,[])) rfl ?_)
 try dsimp only
 refine wpAny_bind (wpAny_field hit rfl (x:=.ref t) rfl ?_)
 refine wpAny_bind (wpAny_field hit rfl (x:=rawInt (i:Int)) rfl ?_)
 show wpAny _ _ (if (i:Int)<0 then _ else _) _ _ s
 rw[if_neg (by lia)]
 show wpAny _ _ (specialOf (.ref t) "__getitem__" >>= _) _ _ s
 refine wpAny_bind (wpAny_specialOf hT PyProof.Rows.slot_tuple_getitem.lookup ?_)
 show wpAny _ _ (if (Option.isNone (some _))=true then _ else _) _ _ s
 rw[if_neg (by decide)]
 show wpAny _ _ (mkInt (i:Int) >>= _) _ _ s
 refine wpAny_bind (wpAny_mkInt ?_)
 refine wpAny_bind (wpAny_attempt (PyProof.Rows.getItem_tuple (j:=i) ht (by lia) (by lia) (PySem.StrLaws.seqIndex_nonneg (by lia) (by lia)) hx ?_))
 dsimp only
 refine wpAny_bind (wpAny_field hit rfl (x:=rawInt (i:Int)) rfl ?_)
 show wpAny _ _ (setField (.ref it) 1 (rawInt ((i:Int)-1)) >>= _) _ _ _
 refine wpAny_bind (wpAny_setField hit rfl (by simp) ?_)
 refine wpAny_pure ⟨x,rfl,wpAny_pure (hQ _ _ ?_ (Heap.SameBut.update ..))⟩
 exact (Heap.get?_update_self _ hit (Obj.isFreed_of_fields (Obj.data_mapFields rfl _))).trans rfl
theorem lwrev_end {it t:Addr}{Q:Option Value->Shared->Prop}(hh:A.handled=none)(hit:s.heap.LwRev it t (-1))
  (hQ:∀h',Heap.ExtBut it s.heap h'->Q none {s with heap:=h'}):wpAny (model prog w) A (pyNext (.ref it)) Q E s:=by
 unfold pyNext
 refine wpAny_bind (wpAny_attempt (wpAny_callSpecial?_slot (name:=Str.ofString "__next__") hit.typeIs F.lwrev_next
  (wpAny_call_entry F.lwrev_next hit.typeIs F.lwrev_entry ?_ (F.lwrev_args _))))
 unfold Builtin.«reversed.__next__»
 refine wpAny_bind (wpAny_of_eq (a:=(Value.ref it,[])) rfl ?_)
 try dsimp only
 refine wpAny_bind (wpAny_field hit rfl (x:=.ref t) rfl ?_)
 refine wpAny_bind (wpAny_field hit rfl (x:=rawInt (-1)) rfl ?_)
 show wpAny _ _ (if (-1:Int)<0 then _ else _) _ _ s
 rw[if_pos (by decide)]
 refine wpAny_bind (wpAny_rule ?_)
 refine wpAny_bind ?_
 show wpAny _ _ (setField (.ref it) 1 (rawInt (-1)) >>= _) _ _ _
 refine wpAny_bind (wpAny_setField hit rfl (by simp) ?_)
 refine wpAny_setField (o:=Obj.mapFields (λa=>a.setIfInBounds 1 (rawInt (-1))) (lwrevObj t (-1))) (Heap.get?_update_self _ hit (Obj.isFreed_of_fields (Obj.data_mapFields rfl _))) (Obj.data_mapFields rfl _) (by simp) ?_
 refine wpAny_bind ?_
 show wpAny _ _ (newExc (.type "StopIteration") [] >>= _) _ _ _
 refine wpAny_bind ?_
 simp only[newExc,newTuple]
 refine wpAny_bind (wpAny_newObj_type ?_ (by size_fits))
 refine wpAny_bind (m:=firstArgMember _ _) (wpAny_of_eq (a:=Value.none) (by first |rfl | (simp only[firstArgMember];rfl)) ?_)
 refine wpAny_newObj_type ?_ (by size_fits)
 simp only[raiseNew]
 refine wpAny_bind (wpAny_handled ?_)
 first |rw[show A.in1.handled=none from hh] |rw[hh]
 refine wpAny_bind (wpAny_pure (wpAny_throw ?_))
 refine wpAny_bind (wpAny_isInstance (T := "StopIteration") (b:=true) ⟨_,Heap.get?_push_size _ rfl,rfl⟩ isSubtype_stop ?_)
 refine wpAny_pure (hQ _ ?_)
 refine Heap.ExtBut.push (Heap.ExtBut.push ?_ _) _
 intro b o hb e
 exact (Heap.get?_update_other _ _ (Ne.symm hb)).trans ((Heap.get?_update_other _ _ (Ne.symm hb)).trans e)
theorem lwrev_self {it t:Addr}{i:Int}{Q:Value->Shared->Prop}(hit:s.heap.LwRev it t i)(h:Q (.ref it) s):wpAny (model prog w) A (pyIter (.ref it)) Q E s:=by
 refine wpAny_pyIter_slot hit.typeIs F.lwrev_iter (wpAny_call_entry F.lwrev_iter hit.typeIs F.lwrev_ientry ?_ (F.lwrev_iargs _))
 show wpAny _ _ (ret (.ref it)) _ _ s
 exact wpAny_pure ⟨_,rfl,"reversed",_,hit.typeIs,F.lwrev_next.lookup,h⟩
end
end PySem
namespace L2
open PySem PySem.Spec PyProof.Rows
def Itv (K:Frag)(a:Addr)(n:Nat):It:=
 ⟨λi H=>∃xs x,SqT K H a xs/\xs.length=n/\i<n/\xs[n-1-i]?=some x,λi H x H'=>H'=H/\∀xs,SqT K H a xs->xs[n-1-i]?=some x,λi _=>n<=i⟩
theorem turn_rev {P:Program}{w:World}{K:Frag}{tg:Expr}(a it:Addr)(n:Nat):Turn P w K tg (Itv K a n) [it] it (λi h=>i<=n/\h.LwRev it a ((n:Int)-1-(i:Nat))) where
 mem:=by simp
 obj := λi h st b hb=>by
  have e:b=it:=by simpa using hb
  subst e
  exact⟨_,st.2,λv z=>by
   have z':Data.fields _=Data.cell v:=z
   cases z'⟩
 keep:=λi h h' st k=>⟨st.1,k it (by simp) _ st.2⟩
 item:=by
  kj_on
  obtain⟨xs,x,hq,hn,hi,hx⟩:=hg
  obtain⟨its,rv,p,hz⟩:=I.tuple hq
  obtain⟨u,hu,ru⟩:=rv.get hx
  obtain⟨f0,f1,f2,f3,f4,f5⟩:=hf it (by simp)
  have hl:=rv.length
  have st0:s.heap.LwRev it a (((n-1-i:Nat)):Int):=by
   have e:(((n-1-i:Nat)):Int)=(n:Int)-1-(i:Nat):=by lia
   rw[e];exact st.2
  refine lwrev_item (items:=its.toArray) st0 p (by rw[List.size_toArray,<- hl];exact hz) (x:=u) (by simpa using hu) λh' tk st' sb=>?_
  have I1:Inv X pins Y H {s with heap:=h',toks:=tk}:=I.turned (λb o hb e=>(sb.2 b hb).trans e) f0 f1 f3 f4 f5
  have st1:h'.LwRev it a ((n:Int)-1-((i+1:Nat):Int)):=by
   have e:(n:Int)-1-((i+1:Nat):Int)=(((n-1-i:Nat)):Int)-1:=by lia
   rw[e];exact st'
  exact⟨u,rfl,go_of (s:={s with heap:=h',toks:=tk}) (n := "reversed") st' rfl rfl (by decide) ⟨x,H,I1,ru,⟨rfl,λys hy=>by rw[I.tuple_inj hy hq];exact hx⟩,⟨by lia,st1⟩,λb hb=>(hf b hb).1⟩⟩
 done:=by
  kj_on
  obtain⟨f0,f1,f2,f3,f4,f5⟩:=hf it (by simp)
  have st0:s.heap.LwRev it a (-1):=by
   have h1:=st.1
   have h2:n<=i:=hg
   have e:(-1:Int)=(n:Int)-1-(i:Nat):=by lia
   rw[e];exact st.2
  exact lwrev_end (I.ok.hd hc) st0 λh' eb=>⟨rfl,I.turned (t':=s.toks) (λb o hb e=>eb b o hb e) f0 f1 f3 f4 f5⟩
 self:=λ_ _ _ _ _ st h=>lwrev_self st.2 h
section
variable {X:Cx}{tg:Expr}
def iRev (K:Frag)(ta:TA):TI:=λY H R=>ta Y H λvs H1=>∃a xs,vs=[.ref a]/\SqT K H1 a xs/\R (Itv K a xs.length) H1
theorem pi_reversed {l:Expr}{ta:TA}{p pos:Pos}(hg:Gl X "reversed")(hm:X.mg "reversed"=none)(ha:PA X [l] ta)(hs:starEach [l] X.env=[(false,eval l X.env)]:=by rfl):PI X tg (.Call (.Name "reversed" p) [l] [] pos) (iRev X.K ta):=by
 intro pins s Y H R I h
 refine Call_ (ld_blt I hg hm PyProof.Rows.boot_reversed (PyProof.Rows.callWith_type1 (thn (ha pos pins s Y H _ I h) λus s1 ⟨vs,H1,I1,r1,q1⟩=>?_) hs rfl))
 obtain⟨a,xs,e,hq,q⟩:=q1
 subst e
 obtain⟨u,rfl,ru⟩:=vals1 r1
 cases ru
 obtain⟨its,rv,pt,hz⟩:=I1.tuple hq
 have hl:=rv.length
 refine call_reversed_tuple (items:=its.toArray) pt (by rw[List.size_toArray,<- hl];exact hz) λtk=>?_
 have e0:(s1.heap.push (lwrevObj a ((its.toArray.size:Int)-1))).LwRev s1.heap.objs.size a ((xs.length:Int)-1-((0:Nat):Int)):=by
  have e:(xs.length:Int)-1-((0:Nat):Int)=(its.toArray.size:Int)-1:=by rw[List.size_toArray,hl];lia
  rw[e]
  exact Heap.get?_push_size _ rfl
 refine lwrev_self e0 ?_
 refine⟨s1.heap.objs.size,[s1.heap.objs.size],_,_,H1,rfl,I1.kept λb o e=>Heap.get?_push_of_some _ e,turn_rev a _ xs.length,⟨Nat.zero_le _,e0⟩,λb hb=>?_,q⟩
 have e:b=s1.heap.objs.size:=by simpa using hb
 subst e
 exact I1.fpOk (Nat.le_refl _) (I1.hok.fresh (Nat.le_refl _))
end
theorem Same.seqT {K:Frag}{H H':Hp}{a:Addr}{xs:List V}(e:Same H H')(h:SqT K H a xs):SqT K H' a xs:=by
 rcases h with (h | ⟨o,h⟩) |h
 .exact .inl (.inl (e _ _ h))
 .exact .inl (.inr ⟨o,e _ _ h⟩)
 .exact .inr h
theorem Xam {X:Cx}{x:Str}{i:Int}{pos:Pos}(hg:Gl X x)(hm:∃t,X.mg x=some (.int i t))(hd:(x==("__debug__":Str))=false:=by decide):PE X (.Name x pos) (tC (.int i)):=by
 obtain⟨t,e⟩:=hm
 exact pe_glob hg e ⟨t,rfl⟩ hd
def SameBut' (l:Addr)(H H':Hp):Prop:=∀b o,b≠l->H b=some o->H' b=some o
theorem SameBut'.trans {l:Addr}{H H1 H2:Hp}(a:SameBut' l H H1)(b:SameBut' l H1 H2):SameBut' l H H2:=λc o hc h=>b c o hc (a c o hc h)
def defName:Stmt->Str
 | .FunctionDef n _ _ _ _ _ _ _ _ _=>n
 |_ => ""
abbrev cloObj (q:Str)(st:Stmt)(cl:List (Str×Addr))(doc pm:Value)(c:Addr)(ctv:Value):Obj:=PySem.W.fnMade (defName st) q (defArgs st) (Xa4 st) (Xac st) cl doc pm c ctv
def CellsF (F:Hp)(cl:List (Str×Addr))(vs:List V):Prop:=∀(i:Nat) (v:V),vs[i]?=some v->∃x a o u,cl[i]?=some (x,a)/\F a=some (.frz o (.own a))/\o.data = .cell (some u)/\RelV v u
inductive D where
 |int (i:Int) |bl (b:Bool) |non |str (x:Str) |ty (n:String) |fn (x:Str) |tup (ds:List D) |lst (ds:List D) |dic |exc (c:Str) |obj (c:Str) (ns:List Str) (ds:List D) |clo (q:Str) (st:Stmt) (cl:List (Str×Addr)) (ds:List D)
def clsφ (a:Addr)(c:Value):Heap->Prop:=λh=>∃o,h.get? a=some o/\o.cls=c
mutual
def Rep (K:Frag)(F:Hp):D->V->Prop
 | .int i,v=>v = .int i
 | .bl b,v=>v = .bl b
 | .non,v=>v = .non
 | .str x,v=>v = .str x
 | .ty n,v=>v = .ty n
 | .fn x,v=>∃f,v = .ref f/\PySem.W.nsIn K mainGlobals x=some (some (.ref f))
 | .tup ds,v=>∃a vs,v = .ref a/\SqT K F a vs/\Reps K F ds vs
 | .lst ds,v=>∃a vs,v = .ref a/\SqL K F a vs/\Reps K F ds vs
 | .dic,v=>∃a,v = .ref a/\F a=some (.ext (clsφ a (.type "dict")))
 | .exc c,v=>∃a C,v = .ref a/\PySem.W.nsIn K mainGlobals c=some (some (.ref C))/\F a=some (.ext (clsφ a (.ref C)))
 | .obj c ns ds,v=>∃a C dx vs,v = .ref a/\PySem.W.nsIn K mainGlobals c=some (some (.ref C))/\F a=some (.ins C dx (ns.zip vs))/\ds.length<=ns.length/\Reps K F ds vs
 | .clo q st cl ds,v=>∃f c oc doc pm ctv vs,v = .ref f/\F f=some (.frz (cloObj q st cl doc pm c ctv) (.own f))/\F c=some (.frz oc (.own c))/\isCod oc q/\Reps K F ds vs/\CellsF F cl vs
def Reps (K:Frag)(F:Hp):List D->List V->Prop
 | [],vs=>vs=[]
 |d::ds,vs=>∃v r,vs=v::r/\Rep K F d v/\Reps K F ds r
end
section
variable {K:Frag}{F F' H H':Hp}
mutual
theorem Rep.mono (s:Same F F'): ∀{d:D} {v:V},Rep K F d v->Rep K F' d v
 | .int _,_,h=>h
 | .bl _,_,h=>h
 | .non,_,h=>h
 | .str _,_,h=>h
 | .ty _,_,h=>h
 | .fn _,_,h=>h
 | .tup ds,v,h=>by
  obtain⟨a,vs,e,h1,h2⟩:=h
  exact⟨a,vs,e,s.seqT h1,Reps.mono s h2⟩
 | .lst ds,v,h=>by
  obtain⟨a,vs,e,h1,h2⟩:=h
  exact⟨a,vs,e,s.seq h1,Reps.mono s h2⟩
 | .dic,v,h=>by
  obtain⟨a,e,h1⟩:=h
  exact⟨a,e,s _ _ h1⟩
 | .exc _,v,h=>by
  obtain⟨a,C,e,h0,h1⟩:=h
  exact⟨a,C,e,h0,s _ _ h1⟩
 | .obj _ _ ds,v,h=>by
  obtain⟨a,C,dx,vs,e,h0,h1,hl,h2⟩:=h
  exact⟨a,C,dx,vs,e,h0,s _ _ h1,hl,Reps.mono s h2⟩
 | .clo _ _ _ ds,v,h=>by
  obtain⟨f,c,oc,doc,pm,ctv,vs,e,h1,h2,h3,h4,h5⟩:=h
  exact⟨f,c,oc,doc,pm,ctv,vs,e,s _ _ h1,s _ _ h2,h3,Reps.mono s h4,λi v hi=>let⟨x,a,o,u,e1,e2,e3⟩:=h5 i v hi;⟨x,a,o,u,e1,s _ _ e2,e3⟩⟩
theorem Reps.mono (s:Same F F'): ∀{ds:List D} {vs:List V},Reps K F ds vs->Reps K F' ds vs
 | [],_,h=>h
 |d::ds,vs,h=>by
  obtain⟨v,r,e,h1,h2⟩:=h
  exact⟨v,r,e,Rep.mono s h1,Reps.mono s h2⟩
end
theorem Reps.length:∀{ds:List D} {vs:List V},Reps K F ds vs->ds.length=vs.length
 | [],_,h=>by cases h;rfl
 |d::ds,vs,h=>by
  obtain⟨v,r,rfl,h1,h2⟩:=h
  simp[Reps.length h2]
theorem Reps.get:∀{ds:List D} {vs:List V} {i:Nat} {d:D},Reps K F ds vs->ds[i]?=some d->∃v,vs[i]?=some v/\Rep K F d v
 | [],_,_,_,_,e=>by simp at e
 |d::ds,vs,i,d',h,e=>by
  obtain⟨v,r,rfl,h1,h2⟩:=h
  cases i with
  |zero=>simp at e;subst e;exact⟨v,rfl,h1⟩
  |succ i=>simpa using Reps.get h2 e
theorem Reps.get':∀{ds:List D} {vs:List V} {i:Nat} {v:V},Reps K F ds vs->vs[i]?=some v->∃d,ds[i]?=some d/\Rep K F d v:=λ{ds vs i v} h e=>by
 have hl:=h.length
 have hi:=(List.getElem?_eq_some_iff.mp e).1
 obtain⟨v',e',r⟩:=h.get (List.getElem?_eq_getElem (i:=i) (by lia))
 rw[e]at e';cases e'
 exact⟨_,List.getElem?_eq_getElem (by lia),r⟩
theorem Reps.append:∀{ds es:List D} {vs us:List V},Reps K F ds vs->Reps K F es us->Reps K F (ds++es) (vs++us)
 | [],_,_,_,h,g=>by cases h;exact g
 |d::ds,_,_,_,h,g=>by
  obtain⟨v,r,rfl,h1,h2⟩:=h
  exact⟨v,r++_,rfl,h1,Reps.append h2 g⟩
theorem Reps.take:∀{ds:List D} {vs:List V} (n:Nat),Reps K F ds vs->Reps K F (ds.take n) (vs.take n)
 | [],_,n,h=>by cases h;simp[Reps]
 |d::ds,_,0,h=>by simp[Reps]
 |d::ds,_,n+1,h=>by
  obtain⟨v,r,rfl,h1,h2⟩:=h
  exact⟨v,r.take n,rfl,h1,Reps.take n h2⟩
theorem Reps.drop:∀{ds:List D} {vs:List V} (n:Nat),Reps K F ds vs->Reps K F (ds.drop n) (vs.drop n)
 | [],_,n,h=>by cases h;simp[Reps]
 |d::ds,_,0,h=>h
 |d::ds,_,n+1,h=>by
  obtain⟨v,r,rfl,h1,h2⟩:=h
  simpa using Reps.drop n h2
theorem Reps.of:∀{ds:List D} {vs:List V},ds.length=vs.length->(∀(i:Nat) d v,ds[i]?=some d->vs[i]?=some v->Rep K F d v)->Reps K F ds vs
 | [],[],_,_=>rfl
 |d::ds,v::vs,e,h=>⟨v,vs,rfl,h 0 d v rfl rfl,Reps.of (by simpa using e) λi d' v' e1 e2=>h (i+1) d' v' e1 e2⟩
 | [],_::_,e,_=>by simp at e
 |_::_,[],e,_=>by simp at e
theorem Reps.reverse (h:Reps K F ds vs): Reps K F ds.reverse vs.reverse:=by
 have hl:=h.length
 refine Reps.of (by simp[hl]) λi d v e1 e2=>?_
 have h1:=(List.getElem?_eq_some_iff.mp e1).1
 rw[List.length_reverse]at h1
 rw[List.getElem?_reverse (by omega)]at e1
 rw[List.getElem?_reverse (by lia),<- hl]at e2
 obtain⟨v',e',r⟩:=h.get e1
 rw[e2]at e';cases e';exact r
theorem reps_ints:∀{xs:List Int} {vs:List V},Reps K F (xs.map D.int) vs↔vs=xs.map V.int
 | [],vs=>Iff.rfl
 |x :: xs,vs=>by
  constructor
  .rintro ⟨v,r,rfl,h1,h2⟩
   have h1':v=V.int x:=h1
   rw[h1',reps_ints.mp h2];rfl
  .rintro rfl
   exact⟨_,_,rfl,rfl,reps_ints.mpr rfl⟩
end
def imm:HO->Bool
 | .tup _=>true
 | .frz _ _=>true
 |_=>false
inductive OV where
 |fz (d:D)
 |nl (ts:List OV)
 |rt (a:Addr) (ts:List OV)
 |fx (v:V) (d:D)
 |ob (o:Option Addr) (c:Str) (ns:List Str) (ts:List OV)
mutual
def OV.val:OV->D
 | .fz d=>d
 | .nl ts=>.lst (OV.vals ts)
 | .rt _ ts=>.lst (OV.vals ts)
 | .fx _ d=>d
 | .ob _ c ns ts=>.obj c ns (OV.vals ts)
def OV.vals:List OV->List D
 | []=>[]
 |t::ts=>t.val::OV.vals ts
end
theorem OV.vals_eq:∀(ts:List OV),OV.vals ts=ts.map OV.val
 | []=>by simp[OV.vals]
 |t::ts=>by simp[OV.vals,OV.vals_eq ts]
mutual
def RepO (K:Frag)(F H:Hp):OV->V->List Addr->Prop
 | .fz d,v,A=>A=[]/\Rep K F d v
 | .nl ts,v,A=>∃a vs B,v = .ref a/\A=a::B/\H a=some (.lst vs)/\Xa5 K F H ts vs B
 | .rt a ts,v,A=>∃vs B,v = .ref a/\A=a::B/\H a=some (.lst vs)/\Xa5 K F H ts vs B
 | .fx u d,v,A=>A=[]/\v=u/\Rep K F d v
 | .ob o c ns ts,v,A=>∃a C dx vs B,v = .ref a/\A=a::dx::B/\PySem.W.nsIn K mainGlobals c=some (some (.ref C))/\(∀a',o=some a'->a=a')/\H a=some (.ins C dx (ns.zip vs))/\H dx=some (.own a)/\ts.length<=ns.length/\Xa5 K F H ts vs B
def Xa5 (K:Frag)(F H:Hp):List OV->List V->List Addr->Prop
 | [],vs,A=>vs=[]/\A=[]
 |t::ts,vs,A=>∃v r B C,vs=v::r/\A=B++C/\RepO K F H t v B/\Xa5 K F H ts r C
end
section
variable {K:Frag}{F F' H H':Hp}
mutual
theorem RepO.frame (s:Same F F'): ∀{t:OV} {v:V} {A:List Addr},(∀a∈A,∀xs,H a=some xs->H' a=some xs)->RepO K F H t v A->RepO K F' H' t v A
 | .fz d,v,A,_,h=>⟨h.1,h.2.mono s⟩
 | .nl ts,v,A,hk,h=>by
  obtain⟨a,vs,B,e,rfl,h1,h2⟩:=h
  exact⟨a,vs,B,e,rfl,hk a List.mem_cons_self _ h1,Xa5.frame s (λb hb=>hk b (List.mem_cons_of_mem _ hb)) h2⟩
 | .rt a ts,v,A,hk,h=>by
  obtain⟨vs,B,e,rfl,h1,h2⟩:=h
  exact⟨vs,B,e,rfl,hk a List.mem_cons_self _ h1,Xa5.frame s (λb hb=>hk b (List.mem_cons_of_mem _ hb)) h2⟩
 | .fx u d,v,A,_,h=>⟨h.1,h.2.1,h.2.2.mono s⟩
 | .ob o c ns ts,v,A,hk,h=>by
  obtain⟨a,C,dx,vs,B,e,rfl,h0,ho,h1,h2,hl,h3⟩:=h
  exact⟨a,C,dx,vs,B,e,rfl,h0,ho,hk a (by simp) _ h1,hk dx (by simp) _ h2,hl,Xa5.frame s (λb hb=>hk b (by simp[hb])) h3⟩
theorem Xa5.frame (s:Same F F'): ∀{ts:List OV} {vs:List V} {A:List Addr},(∀a∈A,∀xs,H a=some xs->H' a=some xs)->Xa5 K F H ts vs A->Xa5 K F' H' ts vs A
 | [],vs,A,_,h=>h
 |t::ts,vs,A,hk,h=>by
  obtain⟨v,r,B,C,e,rfl,h1,h2⟩:=h
  exact⟨v,r,B,C,e,rfl,RepO.frame s (λb hb=>hk b (List.mem_append_left _ hb)) h1,Xa5.frame s (λb hb=>hk b (List.mem_append_right _ hb)) h2⟩
end
mutual
theorem RepO.isl:∀{t:OV} {v:V} {A:List Addr},RepO K F H t v A->∀a∈A,∃xs,H a=some xs/\imm xs=false
 | .fz d,v,A,h,a,ha=>by rw[h.1]at ha;cases ha
 | .nl ts,v,A,h,a,ha=>by
  obtain⟨b,vs,B,e,rfl,h1,h2⟩:=h
  rcases List.mem_cons.mp ha with rfl |z
  .exact ⟨_,h1,rfl⟩
  .exact Xa5.isl h2 a z
 | .rt b ts,v,A,h,a,ha=>by
  obtain⟨vs,B,e,rfl,h1,h2⟩:=h
  rcases List.mem_cons.mp ha with rfl |z
  .exact ⟨_,h1,rfl⟩
  .exact Xa5.isl h2 a z
 | .fx u d,v,A,h,a,ha=>by rw[h.1]at ha;cases ha
 | .ob o c ns ts,v,A,h,a,ha=>by
  obtain⟨b,C,dx,vs,B,e,rfl,h0,ho,h1,h2,hl,h3⟩:=h
  rcases List.mem_cons.mp ha with rfl |z
  .exact ⟨_,h1,rfl⟩
  .rcases List.mem_cons.mp z with rfl |z
   .exact ⟨_,h2,rfl⟩
   .exact Xa5.isl h3 a z
theorem Xa5.isl:∀{ts:List OV} {vs:List V} {A:List Addr},Xa5 K F H ts vs A->∀a∈A,∃xs,H a=some xs/\imm xs=false
 | [],vs,A,h,a,ha=>by rw[h.2]at ha;cases ha
 |t::ts,vs,A,h,a,ha=>by
  obtain⟨v,r,B,C,e,rfl,h1,h2⟩:=h
  rcases List.mem_append.mp ha with z |z
  .exact RepO.isl h1 a z
  .exact Xa5.isl h2 a z
end
mutual
theorem RepO.rep (s:Same F F'): ∀{t:OV} {v:V} {A:List Addr},(∀a∈A,∀xs,H a=some xs->F' a=some xs)->RepO K F H t v A->Rep K F' t.val v
 | .fz d,v,A,_,h=>h.2.mono s
 | .nl ts,v,A,hk,h=>by
  obtain⟨a,vs,B,e,rfl,h1,h2⟩:=h
  exact⟨a,vs,e,SqL.of (hk a List.mem_cons_self _ h1),Xa5.rep s (λb hb=>hk b (List.mem_cons_of_mem _ hb)) h2⟩
 | .fx u d,v,A,_,h=>h.2.2.mono s
 | .ob o c ns ts,v,A,hk,h=>by
  obtain⟨a,C,dx,vs,B,e,rfl,h0,ho,h1,h2,hl,h3⟩:=h
  exact⟨a,C,dx,vs,e,h0,hk a (by simp) _ h1,by rw[OV.vals_eq,List.length_map];exact hl,Xa5.rep s (λb hb=>hk b (by simp[hb])) h3⟩
 | .rt a ts,v,A,hk,h=>by
  obtain⟨vs,B,e,rfl,h1,h2⟩:=h
  exact⟨a,vs,e,SqL.of (hk a List.mem_cons_self _ h1),Xa5.rep s (λb hb=>hk b (List.mem_cons_of_mem _ hb)) h2⟩
theorem Xa5.rep (s:Same F F'):∀{ts:List OV} {vs:List V} {A:List Addr},(∀a∈A,∀xs,H a=some xs->F' a=some xs)->Xa5 K F H ts vs A->Reps K F' (OV.vals ts) vs
 | [],vs,A,_,h=>h.1
 |t::ts,vs,A,hk,h=>by
  obtain⟨v,r,B,C,e,rfl,h1,h2⟩:=h
  exact⟨v,r,e,RepO.rep s (λb hb=>hk b (List.mem_append_left _ hb)) h1,Xa5.rep s (λb hb=>hk b (List.mem_append_right _ hb)) h2⟩
end
theorem Xa5.length:∀{ts:List OV} {vs:List V} {A:List Addr},Xa5 K F H ts vs A->ts.length=vs.length
 | [],_,_,h=>by rw[h.1];rfl
 |t::ts,_,_,h=>by
  obtain⟨v,r,B,C,rfl,rfl,h1,h2⟩:=h
  simp[Xa5.length h2]
theorem Xa5.append:∀{ts us:List OV} {vs ws:List V} {A B:List Addr},Xa5 K F H ts vs A->Xa5 K F H us ws B->Xa5 K F H (ts++us) (vs++ws) (A++B)
 | [],_,_,_,_,_,h,g=>by obtain⟨rfl,rfl⟩:=h;exact g
 |t::ts,_,_,_,_,_,h,g=>by
  obtain⟨v,r,B,C,rfl,rfl,h1,h2⟩:=h
  exact⟨v,_,B,_,rfl,by rw[List.append_assoc],h1,Xa5.append h2 g⟩
theorem Xa5.one (h:RepO K F H t v A): Xa5 K F H [t] [v] A:=⟨v,[],A,[],rfl,by simp,h,rfl,rfl⟩
theorem Xa5.focus:∀{ts:List OV} {vs:List V} {A:List Addr} {i:Nat} {t:OV},Xa5 K F H ts vs A->ts[i]?=some t->∃v A1 B A2,vs[i]?=some v/\A=A1++(B++A2)/\RepO K F H t v B/\
  ∀F' H' t' v' B',Same F F'->(∀a∈A1++A2,∀xs,H a=some xs->H' a=some xs)->RepO K F' H' t' v' B'->Xa5 K F' H' (ts.set i t') (vs.set i v') (A1++(B'++A2))
 | [],_,_,_,_,_,e=>by simp at e
 |t::ts,_,_,0,t0,h,e=>by
  obtain⟨v,r,B,C,rfl,rfl,h1,h2⟩:=h
  simp at e
  subst e
  refine⟨v,[],B,C,rfl,rfl,h1,λF' H' t' v' B' s hk h'=>?_⟩
  exact⟨v',r,B',C,rfl,rfl,h',Xa5.frame s (λa ha=>hk a ha) h2⟩
 |t::ts,_,_,i+1,t0,h,e=>by
  obtain⟨v,r,B,C,rfl,rfl,h1,h2⟩:=h
  obtain⟨v0,A1,B0,A2,e1,rfl,h3,h4⟩:=Xa5.focus h2 e
  refine⟨v0,B++A1,B0,A2,e1,by simp,h3,λF' H' t' v' B' s hk h'=>?_⟩
  refine⟨v,r.set i v',B,A1++(B'++A2),rfl,by simp,RepO.frame s (λa ha=>hk a (by simp[ha])) h1,h4 F' H' t' v' B' s (λa ha=>hk a ?_) h'⟩
  rcases List.mem_append.mp ha with z |z<;>simp[z]
theorem Xa5.fzs:∀{ds:List D} {vs:List V},Reps K F ds vs->Xa5 K F H (ds.map OV.fz) vs []
 | [],_,h=>⟨h,rfl⟩
 |d::ds,_,h=>by
  obtain⟨v,r,rfl,h1,h2⟩:=h
  exact⟨v,r,[],[],rfl,rfl,⟨rfl,h1⟩,Xa5.fzs h2⟩
end
structure Ext (F H F' H':Hp):Prop where
 ff:Same F F'
 hh:Same H H'
 fh:Same F' H'
 no:∀a o,F a=none->H a=some o->imm o=false->F' a=none
theorem Ext.refl (s:Same F H): Ext F H F H:=⟨Same.refl _,Same.refl _,s,λ_ _ h _ _=>h⟩
theorem Ext.trans (a:Ext F H F' H')(b:Ext F' H' F'' H''): Ext F H F'' H'':=
 ⟨a.ff.trans b.ff,a.hh.trans b.hh,b.fh,λx o h1 h2 h3=>b.no x o (a.no x o h1 h2 h3) (a.hh _ _ h2) h3⟩
def RepN (K:Frag)(H F' H':Hp)(r:OV)(v:V):Prop:=∃A,RepO K F' H' r v A/\A.Nodup/\∀a∈A,H a=none/\F' a=none
theorem RepN.fz {K:Frag}{H F' H':Hp}{d:D}{v:V}(h:Rep K F' d v):RepN K H F' H' (.fz d) v:=⟨[],⟨rfl,h⟩,List.nodup_nil,λ_ h=>by cases h⟩
theorem RepN.old {K:Frag}{H0 H F' H':Hp}{r:OV}{v:V}(s:Same H0 H)(h:RepN K H F' H' r v):RepN K H0 F' H' r v:=by
 obtain⟨A,h1,h2,h3⟩:=h
 exact⟨A,h1,h2,λa ha=>⟨s.free (h3 a ha).1,(h3 a ha).2⟩⟩
theorem RepN.frz {K:Frag}{F H F' H':Hp}{r:OV}{v:V}(x:Ext F H F' H')(h:RepN K H F' H' r v):∃F'',Ext F H F'' H'/\Same F' F''/\Rep K F'' r.val v:=by
 obtain⟨A,h1,h2,h3⟩:=h
 refine⟨λa=>if a∈A then H' a else F' a,⟨λb o e=>?_,x.hh,λb o e=>?_,λa o e1 e2 e3=>?_⟩,λb o e=>?_,?_⟩
 .have hb:b∉A:=λz=>by rw[(x.ff.free (h3 b z).2)]at e;cases e
  rw[if_neg hb];exact x.ff _ _ e
 .split at e
  .exact e
  .exact x.fh _ _ e
 .have ha:a∉A:=λz=>by rw[(h3 a z).1]at e2;cases e2
  rw[if_neg ha];exact x.no a o e1 e2 e3
 .have hb:b∉A:=λz=>by rw[(h3 b z).2]at e;cases e
  try dsimp only
  rw[if_neg hb];exact e
 .refine h1.rep (λb o e=>?_) λa ha xs e=>?_
  .have hb:b∉A:=λz=>by rw[(h3 b z).2]at e;cases e
   rw[if_neg hb];exact e
  .rw [if_pos ha];exact e
inductive Sl where
 |own (t:OV)
 |bw (d:D)
abbrev Dst:=List (Option Sl)
structure ER (K:Frag) (F0 H0 F H:Hp) (Y:St) (δ:Dst) (A:Nat->List Addr):Prop where
 len:Y.length=δ.length
 ext:Ext F0 H0 F H
 own:∀(i:Nat) (t:OV),δ[i]?=some (some (.own t))->∃v,Y[i]?=some (some v)/\RepO K F H t v (A i)
 bw:∀(i:Nat) (d:D),δ[i]?=some (some (.bw d))->∃v,Y[i]?=some (some v)/\Rep K H0 d v
 nod:∀i,(A i).Nodup
 dis:∀i j a,i≠j->a∈A i->a∉A j
 new:∀i a,a∈A i->F a=none/\H0 a=none/\∃xs,H a=some xs/\imm xs=false
def EnvR (K:Frag)(F0 H0 F H:Hp)(Y:St)(δ:Dst):Prop:=∃A,ER K F0 H0 F H Y δ A
section
variable {K:Frag}{F0 H0 F H F' H':Hp}{Y:St}{δ:Dst}{A:Nat->List Addr}
theorem ER.on (e:ER K F0 H0 F H Y δ A)(x:Ext F H F' H'): ER K F0 H0 F' H' Y δ A where
 len:=e.len
 ext:=e.ext.trans x
 own:=λi t h=>by
  obtain⟨v,h1,h2⟩:=e.own i t h
  exact⟨v,h1,h2.frame x.ff λa _ xs z=>x.hh _ _ z⟩
 bw:=e.bw
 nod:=e.nod
 dis:=e.dis
 new:=λi a ha=>by
  obtain⟨h1,h2,xs,h3,h4⟩:=e.new i a ha
  exact⟨x.no a _ h1 h3 h4,h2,xs,x.hh _ _ h3,h4⟩
theorem EnvR.on (e:EnvR K F0 H0 F H Y δ)(x:Ext F H F' H'): EnvR K F0 H0 F' H' Y δ:=let⟨A,e⟩:=e;⟨A,e.on x⟩
theorem EnvR.ext (e:EnvR K F0 H0 F H Y δ): Ext F0 H0 F H:=let⟨_,e⟩:=e;e.ext
theorem EnvR.put (e:EnvR K F0 H0 F H Y δ)(x:Ext F H F' H')(i:Nat)(h:RepN K H F' H' r v): EnvR K F0 H0 F' H' (Y.set i (some v)) (δ.set i (some (.own r))):=by
 obtain⟨A,e⟩:=e
 obtain⟨B,b1,b2,b3⟩:=h
 have e':=e.on x
 refine⟨λj=>if j=i then B else A j,by simp[e.len],e'.ext,λj t hj=>?_,λj d hj=>?_,λj=>?_,λj k a hjk h1 h2=>?_,λj a ha=>?_⟩
 .by_cases z:j=i
  .subst z
   rw[if_pos rfl]
   have hl:j<δ.length:=by
    have:=(List.getElem?_eq_some_iff.mp hj).1
    rwa[List.length_set]at this
   rw[List.getElem?_set_self hl]at hj
   cases hj
   exact⟨v,List.getElem?_set_self (by rw[e.len];exact hl),b1⟩
  .rw [if_neg z]
   rw[List.getElem?_set_ne (Ne.symm z)]at hj ⊢
   exact e'.own j t hj
 .by_cases z:j=i
  .subst z
   have hl:j<δ.length:=by
    have:=(List.getElem?_eq_some_iff.mp hj).1
    rwa[List.length_set]at this
   rw[List.getElem?_set_self hl]at hj
   cases hj
  .rw [List.getElem?_set_ne (Ne.symm z)]at hj ⊢
   exact e'.bw j d hj
 .split
  .exact b2
  .exact e.nod j
 .have key:∀k,a∈B->a∈A k->False:=λk z1 z2=>by
   obtain⟨_,_,xs,q,_⟩:=e.new k a z2
   rw[(b3 a z1).1]at q;cases q
  split at h1
  .split at h2
   .lia
   .exact key _ h1 h2
  .split at h2
   .exact key _ h2 h1
   .exact e.dis j k a hjk h1 h2
 .split at ha
  .exact ⟨(b3 a ha).2,e.ext.hh.free (b3 a ha).1,b1.isl a ha⟩
  .exact e'.new j a ha
theorem ER.putFz (e:ER K F0 H0 F H Y δ A)(i:Nat)(h:Rep K F d v): ER K F0 H0 F H (Y.set i (some v)) (δ.set i (some (.own (.fz d)))) (λj=>if j=i then [] else A j):=by
 refine⟨by simp[e.len],e.ext,λj t hj=>?_,λj d hj=>?_,λj=>?_,λj k a hjk h1 h2=>?_,λj a ha=>?_⟩
 .by_cases z:j=i
  .subst z
   rw[if_pos rfl]
   have hl:j<δ.length:=by
    have:=(List.getElem?_eq_some_iff.mp hj).1
    rwa[List.length_set]at this
   rw[List.getElem?_set_self hl]at hj
   cases hj
   exact⟨v,List.getElem?_set_self (by rw[e.len];exact hl),rfl,h⟩
  .rw [if_neg z]
   rw[List.getElem?_set_ne (Ne.symm z)]at hj ⊢
   exact e.own j t hj
 .by_cases z:j=i
  .subst z
   have hl:j<δ.length:=by
    have:=(List.getElem?_eq_some_iff.mp hj).1
    rwa[List.length_set]at this
   rw[List.getElem?_set_self hl]at hj
   cases hj
  .rw [List.getElem?_set_ne (Ne.symm z)]at hj ⊢
   exact e.bw j d hj
 .split
  .exact List.nodup_nil
  .exact e.nod j
 .split at h1
  .cases h1
  .split at h2
   .cases h2
   .exact e.dis j k a hjk h1 h2
 .split at ha
  .cases ha
  .exact e.new j a ha
end
abbrev DE:=Dst->(D->Prop)->Prop
abbrev DO:=Dst->(OV->Prop)->Prop
abbrev DA:=Dst->(List D->Prop)->Prop
abbrev DAO:=Dst->(List OV->Prop)->Prop
abbrev DT:=Dst->(Bool->Prop)->Prop
structure DEnds where
 nx:Dst->Prop
 rt:OV->Prop
 bk:Dst->Prop:=λ_=>False
 ct:Dst->Prop:=λ_=>False
abbrev DS:=DEnds->Dst->Prop
section
variable (K:Frag)
def SimO (t:TE)(E:DO):Prop:=∀F0 H0 F H Y δ P Q,EnvR K F0 H0 F H Y δ->E δ P->(∀r v F' H',P r->Ext F H F' H'->RepN K H F' H' r v->Q v H')->t Y H Q
def SimF (t:TE)(E:DE):Prop:=∀F0 H0 F H Y δ P Q,EnvR K F0 H0 F H Y δ->E δ P->(∀d v F' H',P d->Ext F H F' H'->Rep K F' d v->Q v H')->t Y H Q
def SimB (t:TE)(E:DE):Prop:=∀F0 H0 F H Y δ P Q,EnvR K F0 H0 F H Y δ->E δ P->(∀d v F' H',P d->Ext F H F' H'->Rep K H' d v->Q v H')->t Y H Q
def SimT (t:TT)(C:DT):Prop:=∀F0 H0 F H Y δ P Q,EnvR K F0 H0 F H Y δ->C δ P->(∀b F' H',P b->Ext F H F' H'->Q b H')->t Y H Q
def SimAF (t:TA)(E:DA):Prop:=∀F0 H0 F H Y δ P Q,EnvR K F0 H0 F H Y δ->E δ P->(∀ds vs F' H',P ds->Ext F H F' H'->Reps K F' ds vs->Q vs H')->t Y H Q
def SimAB (t:TA)(E:DA):Prop:=∀F0 H0 F H Y δ P Q,EnvR K F0 H0 F H Y δ->E δ P->(∀ds vs F' H',P ds->Ext F H F' H'->Reps K H' ds vs->Q vs H')->t Y H Q
def RepNs (H F' H':Hp)(rs:List OV)(vs:List V):Prop:=∃A,Xa5 K F' H' rs vs A/\A.Nodup/\∀a∈A,H a=none/\F' a=none
def SimAO (t:TA)(E:DAO):Prop:=∀F0 H0 F H Y δ P Q,EnvR K F0 H0 F H Y δ->E δ P->(∀rs vs F' H',P rs->Ext F H F' H'->RepNs K H F' H' rs vs->Q vs H')->t Y H Q
structure Lk (F0 H0:Hp) (De:DEnds) (E:Ends):Prop where
 nx:∀F H Y δ,EnvR K F0 H0 F H Y δ->De.nx δ->E.nx Y H
 bk:∀F H Y δ,EnvR K F0 H0 F H Y δ->De.bk δ->E.bk Y H
 ct:∀F H Y δ,EnvR K F0 H0 F H Y δ->De.ct δ->E.ct Y H
 rt:∀F H r v,Ext F0 H0 F H->RepN K H0 F H r v->De.rt r->E.rt v H
def SimS (t:TS)(T:DS):Prop:=∀F0 H0 F H Y δ De E,EnvR K F0 H0 F H Y δ->Lk K F0 H0 De E->T De δ->t E Y H
def SimG (g:TG)(G:D->Dst->(Dst->Prop)->Prop):Prop:=∀F0 H0 F H Y δ A d v P Q,ER K F0 H0 F H Y δ A->Rep K F d v->G d δ P->(∀Y' δ' A',P δ'->ER K F0 H0 F H Y' δ' A'->(∀i a,a∈A' i->a∈A i)->Q Y' H)->g v Y H Q
def SimGs (g:TGs)(G:List D->Dst->(Dst->Prop)->Prop):Prop:=∀F0 H0 F H Y δ A ds vs P Q,ER K F0 H0 F H Y δ A->Reps K F ds vs->G ds δ P->(∀Y' δ' A',P δ'->ER K F0 H0 F H Y' δ' A'->(∀i a,a∈A' i->a∈A i)->Q Y' H)->g vs Y H Q
end
section
variable {K:Frag}{t ta tb tc:TE}{E Ea Eb Ec:DE}
def dFz (E:DE):DO:=λδ P=>E δ λd=>P (.fz d)
def dVal (E:DO):DE:=λδ P=>E δ λr=>P r.val
theorem Xaq (h:SimF K t E): SimB K t E:=λF0 H0 F H Y δ P Q e w q=>h F0 H0 F H Y δ P Q e w λd v F' H' p x r=>q d v F' H' p x (r.mono x.fh)
theorem sO_f (h:SimF K t E): SimO K t (dFz E):=λF0 H0 F H Y δ P Q e w q=>h F0 H0 F H Y δ _ Q e w λd v F' H' p x r=>q _ v F' H' p x (.fz r)
theorem sF_o {E:DO}(h:SimO K t E):SimF K t (dVal E):=λF0 H0 F H Y δ P Q e w q=>h F0 H0 F H Y δ _ Q e w λd v F' H' p x r=>by
 obtain⟨F'',x',_,r'⟩:=r.frz x
 exact q _ v F'' H' p x' r'
mutual
def D.lf:D->Bool
 | .tup ds=>D.lfs ds
 | .lst _=>false
 | .dic=>false
 | .exc _=>false
 | .obj _ _ _=>false
 | .clo _ _ _ _=>false
 |_=>true
def D.lfs:List D->Bool
 | []=>true
 |d::ds=>d.lf && D.lfs ds
end
def frzT (F H:Hp):Hp:=λa=>match F a with
 |some o=>some o
 |none=>match H a with
  |some o=>if imm o=true then some o else none
  |none=>none
theorem frzT_ext (s:Same F H): Ext F H (frzT F H) H:=by
 refine⟨λb o e=>?_,Same.refl _,λb o e=>?_,λa o e1 e2 e3=>?_⟩
 .unfold frzT;rw[e]
 .unfold frzT at e
  cases q:F b with
  |some o'=>rw[q]at e;rw[<- e];exact s _ _ q
  |none=>
   rw[q]at e
   cases q2:H b with
   |none=>rw[q2]at e;cases e
   |some o'=>
    rw[q2]at e
    dsimp only at e
    split at e
    .exact e
    .cases e
 .unfold frzT;rw[e1,e2]
  dsimp only
  rw[e3];rfl
theorem frzT_imm (s:Same F H)(h:H a=some o)(hi:imm o=true): frzT F H a=some o:=by
 unfold frzT
 cases q:F a with
 |some o'=>rw[s _ _ q]at h;exact h
 |none=>rw[h];dsimp only;rw[hi];rfl
theorem frzT_seqT (s:Same F H)(h:SqT K H a xs): SqT K (frzT F H) a xs:=by
 rcases h with (h | ⟨o,h⟩) |h
 .exact .inl (.inl (frzT_imm s h rfl))
 .exact .inl (.inr ⟨o,frzT_imm s h rfl⟩)
 .exact .inr h
mutual
theorem Rep.lf (s:Same F H): ∀{d:D} {v:V},Rep K H d v->d.lf=true->Rep K (frzT F H) d v
 | .int _,_,h,_=>h
 | .bl _,_,h,_=>h
 | .non,_,h,_=>h
 | .str _,_,h,_=>h
 | .ty _,_,h,_=>h
 | .fn _,_,h,_=>h
 | .tup ds,v,h,z=>by
  obtain⟨a,vs,e,h1,h2⟩:=h
  exact⟨a,vs,e,frzT_seqT s h1,Reps.lf s h2 (by simpa[D.lf] using z)⟩
 | .lst ds,v,h,z=>by simp[D.lf]at z
 | .dic,v,h,z=>by simp[D.lf]at z
 | .exc _,v,h,z=>by simp[D.lf]at z
 | .obj _ _ _,v,h,z=>by simp[D.lf]at z
 | .clo _ _ _ _,v,h,z=>by simp[D.lf]at z
theorem Reps.lf (s:Same F H): ∀{ds:List D} {vs:List V},Reps K H ds vs->D.lfs ds=true->Reps K (frzT F H) ds vs
 | [],_,h,_=>h
 |d::ds,vs,h,z=>by
  obtain⟨v,r,e,h1,h2⟩:=h
  simp[D.lfs]at z
  exact⟨v,r,e,Rep.lf s h1 z.1,Reps.lf s h2 z.2⟩
end
theorem D.lfs_eq:∀(ds:List D),D.lfs ds=ds.all D.lf
 | []=>rfl
 |d::ds=>by simp[D.lfs,D.lfs_eq ds]
def dLf (E:DE):DE:=λδ P=>E δ λd=>d.lf=true/\P d
theorem sF_lf (h:SimB K t E): SimF K t (dLf E):=λF0 H0 F H Y δ P Q e w q=>h F0 H0 F H Y δ _ Q e w λd v F' H' p x r=>
 q d v _ H' p.2 (x.trans (frzT_ext x.fh)) (Rep.lf x.fh r p.1)
def dV (i:Nat):DE:=λδ P=>match δ[i]? with
 |some (some (.own (.fz d)))=>P d
 |some (some (.own (.fx _ d)))=>P d
 |_=>False
def dB (i:Nat):DE:=λδ P=>match δ[i]? with
 |some (some (.own t))=>P t.val
 |some (some (.bw d))=>P d
 |_=>False
theorem Xaf:SimF K (tVar i) (dV i):=λF0 H0 F H Y δ P Q ⟨A,e⟩ w q=>by
 unfold dV at w
 split at w
 .rename_i d hd
  obtain⟨v,h1,h2⟩:=e.own i _ hd
  exact⟨v,h1,q d v F H w (Ext.refl e.ext.fh) h2.2⟩
 .rename_i u d hd
  obtain⟨v,h1,h2⟩:=e.own i _ hd
  exact⟨v,h1,q d v F H w (Ext.refl e.ext.fh) h2.2.2⟩
 .exact w.elim
theorem Xad:SimB K (tVar i) (dB i):=λF0 H0 F H Y δ P Q ⟨A,e⟩ w q=>by
 unfold dB at w
 split at w
 .rename_i t hd
  obtain⟨v,h1,h2⟩:=e.own i _ hd
  exact⟨v,h1,q _ v F H w (Ext.refl e.ext.fh) (h2.rep e.ext.fh λa _ xs z=>z)⟩
 .rename_i d hd
  obtain⟨v,h1,h2⟩:=e.bw i _ hd
  exact⟨v,h1,q _ v F H w (Ext.refl e.ext.fh) (h2.mono e.ext.hh)⟩
 .exact w.elim
def dC (d:D):DE:=λ_ P=>P d
theorem sF_c (h:∀F,Rep K F d v): SimF K (tC v) (dC d):=λF0 H0 F H Y δ P Q e w q=>q d v F H w (Ext.refl e.ext.fh) (h _)
theorem Xag:SimF K (tC (.int i)) (dC (.int i)):=sF_c λ_=>rfl
theorem sF_bl:SimF K (tC (.bl b)) (dC (.bl b)):=sF_c λ_=>rfl
theorem sF_non:SimF K (tC .non) (dC .non):=sF_c λ_=>rfl
theorem sF_str:SimF K (tC (.str x)) (dC (.str x)):=sF_c λ_=>rfl
theorem sF_ty:SimF K (tC (.ty n)) (dC (.ty n)):=sF_c λ_=>rfl
abbrev DR2:=D->D->(D->Prop)->Prop
def OpS (K:Frag)(R:R2)(r:DR2):Prop:=∀F H x y v u P Q,Same F H->Rep K H x v->Rep K H y u->r x y P->(∀d w F' H',P d->Ext F H F' H'->Rep K F' d w->Q w H')->R v u H Q
def OpB (K:Frag)(R:R2)(r:DR2):Prop:=∀H x y v u P Q,Rep K H x v->Rep K H y u->r x y P->(∀d w,P d->Rep K H d w->Q w H)->R v u H Q
def dOp (r:DR2)(Ea Eb:DE):DE:=λδ P=>Ea δ λx=>Eb δ λy=>r x y P
theorem Xao (h:OpS K R r)(ha:SimB K ta Ea)(hb:SimB K tb Eb): SimF K (tOp R ta tb) (dOp r Ea Eb):=λF0 H0 F H Y δ P Q e w q=>
 ha F0 H0 F H Y δ _ _ e w λx v F1 H1 w1 x1 r1=>hb F0 H0 F1 H1 Y δ _ _ (e.on x1) w1 λy u F2 H2 w2 x2 r2=>
  h F2 H2 x y v u P _ x2.fh (r1.mono x2.hh) r2 w2 λd w F' H' p x' r'=>q d w F' H' p (x1.trans (x2.trans x')) r'
theorem sB_op (h:OpB K R r)(ha:SimB K ta Ea)(hb:SimB K tb Eb): SimB K (tOp R ta tb) (dOp r Ea Eb):=λF0 H0 F H Y δ P Q e w q=>
 ha F0 H0 F H Y δ _ _ e w λx v F1 H1 w1 x1 r1=>hb F0 H0 F1 H1 Y δ _ _ (e.on x1) w1 λy u F2 H2 w2 x2 r2=>
  h H2 x y v u P _ (r1.mono x2.hh) r2 w2 λd w p r'=>q d w F2 H2 p (x1.trans x2) r'
def rI2 (g:Int->Int->D):DR2:=λx y P=>match x,y with
 | .int i,.int j=>P (g i j)
 |_,_=>False
def rI2C (C:Int->Int->Prop)(g:Int->Int->D):DR2:=λx y P=>match x,y with
 | .int i,.int j=>C i j/\P (g i j)
 |_,_=>False
theorem rI2_inv {g:Int->Int->D}{P:D->Prop}(h:rI2 g x y P): ∃i j,x = .int i/\y = .int j/\P (g i j):=by
 unfold rI2 at h
 split at h
 .exact ⟨_,_,rfl,rfl,h⟩
 .exact h.elim
theorem rI2C_inv {C:Int->Int->Prop}{g:Int->Int->D}{P:D->Prop}(h:rI2C C g x y P): ∃i j,x = .int i/\y = .int j/\C i j/\P (g i j):=by
 unfold rI2C at h
 split at h
 .exact ⟨_,_,rfl,rfl,h.1,h.2⟩
 .exact h.elim
theorem oS_I0 {g:Int->Int->V}{g':Int->Int->D}(hg:∀F i j,Rep K F (g' i j) (g i j)): OpS K (rI0 g) (rI2 g'):=λF H x y v u P Q s rx ry w q=>by
 obtain⟨i,j,rfl,rfl,p⟩:=rI2_inv w
 exact⟨i,j,rx,ry,q _ _ F H p (Ext.refl s) (hg _ _ _)⟩
theorem oS_I {C:Int->Int->Prop}{g:Int->Int->V}{g':Int->Int->D}(hg:∀F i j,Rep K F (g' i j) (g i j)): OpS K (rI C g) (rI2C C g'):=λF H x y v u P Q s rx ry w q=>by
 obtain⟨i,j,rfl,rfl,c,p⟩:=rI2C_inv w
 exact⟨i,j,rx,ry,c,q _ _ F H p (Ext.refl s) (hg _ _ _)⟩
theorem oS_i0 {g:Int->Int->Int}: OpS K (rI0 λi j=>.int (g i j)) (rI2 λi j=>.int (g i j)):=oS_I0 λ_ _ _=>rfl
theorem oS_i {C:Int->Int->Prop}{g:Int->Int->Int}: OpS K (rI C λi j=>.int (g i j)) (rI2C C λi j=>.int (g i j)):=oS_I λ_ _ _=>rfl
theorem oS_b0 {g:Int->Int->Bool}: OpS K (rI0 λi j=>.bl (g i j)) (rI2 λi j=>.bl (g i j)):=oS_I0 λ_ _ _=>rfl
def rEqD:DR2:=λx y P=>match x,y with
 | .int i,.int j=>P (.bl (decide (i=j)))
 | .str i,.str j=>P (.bl (decide (i=j)))
 | .bl i,.bl j=>P (.bl (decide (i=j)))
 |_,_=>False
def rNeD:DR2:=λx y P=>match x,y with
 | .int i,.int j=>P (.bl (!decide (i=j)))
 | .str i,.str j=>P (.bl (!decide (i=j)))
 | .bl i,.bl j=>P (.bl (!decide (i=j)))
 |_,_=>False
theorem vd_int:decide (V.int i=V.int j)=decide (i=j):=by
 by_cases h:i=j
 .subst h;simp
 .rw [decide_eq_false h,decide_eq_false λz=>h (by injection z)]
theorem vd_str:decide (V.str i=V.str j)=decide (i=j):=by
 by_cases h:i=j
 .subst h;simp
 .rw [decide_eq_false h,decide_eq_false λz=>h (by injection z)]
theorem vd_bl:decide (V.bl i=V.bl j)=decide (i=j):=by
 by_cases h:i=j
 .subst h;simp
 .rw [decide_eq_false h,decide_eq_false λz=>h (by injection z)]
theorem oS_eq:OpS K rEq rEqD:=λF H x y v u P Q s rx ry w q=>by
 unfold rEqD at w
 split at w
 .cases rx;cases ry;exact⟨rfl,by rw[vd_int];exact q _ _ F H w (Ext.refl s) rfl⟩
 .cases rx;cases ry;exact⟨rfl,by rw[vd_str];exact q _ _ F H w (Ext.refl s) rfl⟩
 .cases rx;cases ry;exact⟨rfl,by rw[vd_bl];exact q _ _ F H w (Ext.refl s) rfl⟩
 .exact w.elim
theorem oS_ne:OpS K rNe rNeD:=λF H x y v u P Q s rx ry w q=>by
 unfold rNeD at w
 split at w
 .cases rx;cases ry;exact⟨rfl,by rw[vd_int];exact q _ _ F H w (Ext.refl s) rfl⟩
 .cases rx;cases ry;exact⟨rfl,by rw[vd_str];exact q _ _ F H w (Ext.refl s) rfl⟩
 .cases rx;cases ry;exact⟨rfl,by rw[vd_bl];exact q _ _ F H w (Ext.refl s) rfl⟩
 .exact w.elim
def D.isNon:D->Bool
 | .non=>true
 |_=>false
def rIsN:DR2:=λx y P=>match y with
 | .non=>P (.bl x.isNon)
 |_=>False
def rNotN:DR2:=λx y P=>match y with
 | .non=>P (.bl (!x.isNon))
 |_=>False
theorem isNon_rep:∀{x:D} {v:V},Rep K F x v->decide (v = .non)=x.isNon
 | .int _,_,h=>by rw[show _=V.int _ from h];rfl
 | .bl _,_,h=>by rw[show _=V.bl _ from h];rfl
 | .non,_,h=>by rw[show _=V.non from h];rfl
 | .str _,_,h=>by rw[show _=V.str _ from h];rfl
 | .ty _,_,h=>by rw[show _=V.ty _ from h];rfl
 | .fn _,_,h=>by obtain⟨f,rfl,_⟩:=h;rfl
 | .tup _,_,h=>by obtain⟨a,vs,rfl,_⟩:=h;rfl
 | .lst _,_,h=>by obtain⟨a,vs,rfl,_⟩:=h;rfl
 | .dic,_,h=>by obtain⟨a,rfl,_⟩:=h;rfl
 | .exc _,_,h=>by obtain⟨a,C,rfl,_⟩:=h;rfl
 | .obj _ _ _,_,h=>by obtain⟨a,C,dx,vs,rfl,_⟩:=h;rfl
 | .clo _ _ _ _,_,h=>by obtain⟨_,_,_,_,_,_,_,rfl,_⟩:=h;rfl
theorem oS_isN:OpS K (λx y H Q=>y = .non/\Q (.bl (decide (x = .non))) H) rIsN:=λF H x y v u P Q s rx ry w q=>by
 unfold rIsN at w
 split at w
 .refine ⟨ry,?_⟩
  rw[isNon_rep rx]
  exact q _ _ F H w (Ext.refl s) rfl
 .exact w.elim
theorem oS_notN:OpS K (λx y H Q=>y = .non/\Q (.bl (!decide (x = .non))) H) rNotN:=λF H x y v u P Q s rx ry w q=>by
 unfold rNotN at w
 split at w
 .refine ⟨ry,?_⟩
  rw[isNon_rep rx]
  exact q _ _ F H w (Ext.refl s) rfl
 .exact w.elim
def dUn (r:D->(D->Prop)->Prop)(Ea:DE):DE:=λδ P=>Ea δ λx=>r x P
def rU1 (g:Int->D):D->(D->Prop)->Prop:=λx P=>match x with
 | .int i=>P (g i)
 |_=>False
theorem sF_neg {g:Int->Int}(ha:SimB K ta Ea): SimF K (tUn (rU λi=>.int (g i)) ta) (dUn (rU1 λi=>.int (g i)) Ea):=λF0 H0 F H Y δ P Q e w q=>
 ha F0 H0 F H Y δ _ _ e w λx v F1 H1 w1 x1 r1=>by
  unfold rU1 at w1
  split at w1
  .exact ⟨_,r1,q _ _ F1 H1 w1 x1 rfl⟩
  .exact w1.elim
def dTb (E:DE):DT:=λδ P=>E δ λd=>match d with
 | .bl b=>P b
 |_=>False
theorem sT_of (h:SimF K t E): ∀(F0 H0 F H:Hp) (Y:St) (δ:Dst) (P:Bool->Prop) (Q:Bool->Hp->Prop),EnvR K F0 H0 F H Y δ->dTb E δ P->(∀b F' H',P b->Ext F H F' H'->Q b H')->t Y H λx H'=>∃k,x = .bl k/\Q k H':=λF0 H0 F H Y δ P Q e w q=>
 h F0 H0 F H Y δ _ _ e w λd v F' H' p x r=>by
  split at p
  .exact ⟨_,r,q _ F' H' p x⟩
  .exact p.elim
theorem sT_test (h:SimF K t E): SimT K (tTest t) (dTb E):=sT_of h
theorem sT_b (h:SimF K t E): SimT K (tB t) (dTb E):=sT_of h
section
variable {ua ub:TT}{Ca Cb:DT}
def dNot (C:DT):DT:=λδ P=>C δ λb=>P (!b)
def dAnd (Ca Cb:DT):DT:=λδ P=>Ca δ λb=>if b=true then Cb δ P else P false
def dOr (Ca Cb:DT):DT:=λδ P=>Ca δ λb=>if b=true then P true else Cb δ P
theorem sT_not (h:SimT K ua Ca): SimT K (tNot ua) (dNot Ca):=λF0 H0 F H Y δ P Q e w q=>h F0 H0 F H Y δ _ _ e w λb F' H' p x=>q _ F' H' p x
theorem sT_and (h:SimT K ua Ca)(g:SimT K ub Cb): SimT K (tAnd ua ub) (dAnd Ca Cb):=λF0 H0 F H Y δ P Q e w q=>h F0 H0 F H Y δ _ _ e w λb F' H' p x=>by
 cases b with
 |true=>exact iteT (g F0 H0 F' H' Y δ P Q (e.on x) p λb F2 H2 p2 x2=>q b F2 H2 p2 (x.trans x2))
 |false=>exact iteB rfl (q _ F' H' p x)
theorem sT_or (h:SimT K ua Ca)(g:SimT K ub Cb): SimT K (tOr ua ub) (dOr Ca Cb):=λF0 H0 F H Y δ P Q e w q=>h F0 H0 F H Y δ _ _ e w λb F' H' p x=>by
 cases b with
 |true=>exact iteT (q _ F' H' p x)
 |false=>exact iteB rfl (g F0 H0 F' H' Y δ P Q (e.on x) p λb F2 H2 p2 x2=>q b F2 H2 p2 (x.trans x2))
def dIf (C:DT)(Ea Eb:DE):DE:=λδ P=>C δ λb=>if b=true then Ea δ P else Eb δ P
theorem sF_if (h:SimT K ua Ca)(ha:SimF K ta Ea)(hb:SimF K tb Eb): SimF K (tIf ua ta tb) (dIf Ca Ea Eb):=λF0 H0 F H Y δ P Q e w q=>h F0 H0 F H Y δ _ _ e w λb F' H' p x=>by
 cases b with
 |true=>exact iteT (ha F0 H0 F' H' Y δ P Q (e.on x) p λd v F2 H2 p2 x2 r=>q d v F2 H2 p2 (x.trans x2) r)
 |false=>exact iteB rfl (hb F0 H0 F' H' Y δ P Q (e.on x) p λd v F2 H2 p2 x2 r=>q d v F2 H2 p2 (x.trans x2) r)
end
def dAndV (Ea Eb:DE):DE:=λδ P=>Ea δ λx=>match x with
 | .bl c=>if c=true then Eb δ P else P (.bl false)
 |_=>False
def dOrV (Ea Eb:DE):DE:=λδ P=>Ea δ λx=>match x with
 | .bl c=>if c=true then P (.bl true) else Eb δ P
 |_=>False
def dNotV (Ea:DE):DE:=λδ P=>Ea δ λx=>match x with
 | .bl c=>P (.bl (!c))
 |_=>False
theorem sF_andV (ha:SimF K ta Ea)(hb:SimF K tb Eb): SimF K (tAndV ta tb) (dAndV Ea Eb):=λF0 H0 F H Y δ P Q e w q=>ha F0 H0 F H Y δ _ _ e w λd v F' H' p x r=>by
 split at p
 .rename_i c
  refine⟨c,r,?_⟩
  cases c with
  |true=>exact iteT (hb F0 H0 F' H' Y δ P Q (e.on x) p λd v F2 H2 p2 x2 r=>q d v F2 H2 p2 (x.trans x2) r)
  |false=>exact iteB rfl (q _ _ F' H' p x rfl)
 .exact p.elim
theorem sF_orV (ha:SimF K ta Ea)(hb:SimF K tb Eb):SimF K (tOrV ta tb) (dOrV Ea Eb):=λF0 H0 F H Y δ P Q e w q=>ha F0 H0 F H Y δ _ _ e w λd v F' H' p x r=>by
 split at p
 .rename_i c
  refine⟨c,r,?_⟩
  cases c with
  |true=>exact iteT (q _ _ F' H' p x rfl)
  |false=>exact iteB rfl (hb F0 H0 F' H' Y δ P Q (e.on x) p λd v F2 H2 p2 x2 r=>q d v F2 H2 p2 (x.trans x2) r)
 .exact p.elim
theorem sF_notV (ha:SimF K ta Ea): SimF K (tNotV ta) (dNotV Ea):=λF0 H0 F H Y δ P Q e w q=>ha F0 H0 F H Y δ _ _ e w λd v F' H' p x r=>by
 split at p
 .exact ⟨_,r,q _ _ F' H' p x rfl⟩
 .exact p.elim
def dChain (r r':DR2)(Ea Eb Ec:DE):DE:=λδ P=>Ea δ λx=>Eb δ λy=>r x y λz=>match z with
 | .bl k=>if k=true then Ec δ λw=>r' y w P else P (.bl false)
 |_=>False
theorem sF_chain (h:OpS K R r)(h':OpS K R' r')(ha:SimB K ta Ea)(hb:SimB K tb Eb)(hc:SimB K tc Ec): SimF K (tChain R R' ta tb tc) (dChain r r' Ea Eb Ec):=λF0 H0 F H Y δ P Q e w q=>
 ha F0 H0 F H Y δ _ _ e w λx v F1 H1 w1 x1 r1=>hb F0 H0 F1 H1 Y δ _ _ (e.on x1) w1 λy u F2 H2 w2 x2 r2=>
  h F2 H2 x y v u _ _ x2.fh (r1.mono x2.hh) r2 w2 λd w F3 H3 p x3 r3=>by
   have x13:=x1.trans (x2.trans x3)
   split at p
   .rename_i k
    refine⟨k,r3,?_⟩
    cases k with
    |true=>exact iteT (hc F0 H0 F3 H3 Y δ _ _ (e.on x13) p λz w4 F4 H4 p4 x4 r4=>h' F4 H4 y z u w4 P Q x4.fh (r2.mono (x3.hh.trans x4.hh)) r4 p4 λd w F5 H5 p5 x5 r5=>q d w F5 H5 p5 (x13.trans (x4.trans x5)) r5)
    |false=>exact iteB rfl (q _ _ F3 H3 p x13 rfl)
   .exact p.elim
section
variable {a:TA}{As:DA}
def dNil:DA:=λ_ P=>P []
def dCons (Ea:DE)(As:DA):DA:=λδ P=>Ea δ λd=>As δ λds=>P (d::ds)
theorem Xap:SimAB K tNil dNil:=λF0 H0 F H Y δ P Q e w q=>q [] [] F H w (Ext.refl e.ext.fh) rfl
theorem Xak:SimAF K tNil dNil:=λF0 H0 F H Y δ P Q e w q=>q [] [] F H w (Ext.refl e.ext.fh) rfl
theorem Xaj (ha:SimB K ta Ea)(hr:SimAB K a As): SimAB K (tCons ta a) (dCons Ea As):=λF0 H0 F H Y δ P Q e w q=>ha F0 H0 F H Y δ _ _ e w λd v F1 H1 w1 x1 r1=>
 hr F0 H0 F1 H1 Y δ _ _ (e.on x1) w1 λds vs F2 H2 w2 x2 r2=>q (d::ds) (v::vs) F2 H2 w2 (x1.trans x2) ⟨v,vs,rfl,r1.mono x2.hh,r2⟩
theorem Xab (ha:SimF K ta Ea)(hr:SimAF K a As): SimAF K (tCons ta a) (dCons Ea As):=λF0 H0 F H Y δ P Q e w q=>ha F0 H0 F H Y δ _ _ e w λd v F1 H1 w1 x1 r1=>
 hr F0 H0 F1 H1 Y δ _ _ (e.on x1) w1 λds vs F2 H2 w2 x2 r2=>q (d::ds) (v::vs) F2 H2 w2 (x1.trans x2) ⟨v,vs,rfl,r1.mono x2.ff,r2⟩
def dNilO:DAO:=λ_ P=>P []
def dConsO (Ea:DO)(As:DAO):DAO:=λδ P=>Ea δ λd=>As δ λds=>P (d::ds)
theorem sAO_nil:SimAO K tNil dNilO:=λF0 H0 F H Y δ P Q e w q=>q [] [] F H w (Ext.refl e.ext.fh) ⟨[],⟨rfl,rfl⟩,List.nodup_nil,λ_ h=>by cases h⟩
theorem sAO_cons (ha:SimO K ta Eo)(hr:SimAO K a Ao): SimAO K (tCons ta a) (dConsO Eo Ao):=λF0 H0 F H Y δ P Q e w q=>ha F0 H0 F H Y δ _ _ e w λd v F1 H1 w1 x1 r1=>
 hr F0 H0 F1 H1 Y δ _ _ (e.on x1) w1 λds vs F2 H2 w2 x2 r2=>q (d::ds) (v::vs) F2 H2 w2 (x1.trans x2) (by
  obtain⟨A,a1,a2,a3⟩:=r1
  obtain⟨B,b1,b2,b3⟩:=r2
  refine⟨A++B,⟨v,vs,A,B,rfl,rfl,a1.frame x2.ff λa _ xs e=>x2.hh _ _ e,b1⟩,List.nodup_append.mpr ⟨a2,b2,λx hx y hy z=>?_⟩,λz hz=>?_⟩
  .subst z
   obtain⟨xs,hxs,_⟩:=a1.isl _ hx
   rw[(b3 _ hy).1]at hxs;cases hxs
  .rcases List.mem_append.mp hz with h |h
   .obtain ⟨xs,hxs,hxi⟩:=a1.isl _ h
    exact⟨(a3 z h).1,x2.no z _ (a3 z h).2 hxs hxi⟩
   .exact ⟨x1.hh.free (b3 z h).1,(b3 z h).2⟩)
def dTup (As:DA):DE:=λδ P=>As δ λds=>ds.length<=1000000/\P (.tup ds)
theorem sz_le (h:n<=1000000): n<=sizeLine:=by rw[sizeLine_eq];lia
theorem sz_lt (h:n<1000000): n<sizeLine:=by rw[sizeLine_eq];lia
theorem Ext.new (s:Same F H)(hp:H p=none)(hs:Same H H')(h:H' p=some o): Ext F H (upd F p o) H':=by
 refine⟨λb u e=>?_,hs,λb u e=>?_,λb u e1 e2 e3=>?_⟩
 .rw [upd_ne λz=>by rw[z,s.free hp]at e;cases e];exact e
 .by_cases hb:b=p
  .subst hb;rw[Xa0]at e;rw[<- e];exact h
  .rw [upd_ne hb]at e;exact hs _ _ (s _ _ e)
 .rw [upd_ne λz=>by rw[z,hp]at e2;cases e2];exact e1
theorem Same.upd' (h:F p=none): Same F (upd F p o):=Same.new h
theorem sF_tup (h:SimAF K a As): SimF K (tTupS a) (dTup As):=λF0 H0 F H Y δ P Q e w q=>h F0 H0 F H Y δ _ _ e w λds vs F1 H1 w1 x1 r1=>by
 have hl:=r1.length
 refine⟨sz_le (by lia),λp H' hp hs he=>?_⟩
 exact q _ _ _ H' w1.2 (x1.trans (Ext.new x1.fh hp hs he)) ⟨p,vs,rfl,.inl (.inl Xa0),r1.mono (Same.upd' (x1.fh.free hp))⟩
def dLst (As:DAO):DO:=λδ P=>As δ λts=>ts.length<=1000000/\P (.nl ts)
theorem sO_lst (h:SimAO K a Ao): SimO K (tLstS a) (dLst Ao):=λF0 H0 F H Y δ P Q e w q=>h F0 H0 F H Y δ _ _ e w λts vs F1 H1 w1 x1 r1=>by
 obtain⟨A,a1,a2,a3⟩:=r1
 have hl:=a1.length
 refine⟨sz_le (by lia),λp H' hp hs he=>?_⟩
 refine q _ _ F1 H' w1.2 (x1.trans ⟨Same.refl _,hs,x1.fh.trans hs,λ_ _ z _ _=>z⟩) ⟨p::A,⟨p,vs,A,rfl,rfl,he,a1.frame (Same.refl _) λb _ xs z=>hs _ _ z⟩,List.nodup_cons.mpr ⟨λz=>?_,a2⟩,λb hb=>?_⟩
 .obtain ⟨xs,z,_⟩:=a1.isl p z
  rw[hp]at z;cases z
 .rcases List.mem_cons.mp hb with rfl |hb
  .exact ⟨x1.hh.free hp,x1.fh.free hp⟩
  .exact a3 b hb
end
end
section
variable {K:Frag}{t ta tb tc:TE}{E Ea Eb Ec:DE}{a:TA}{As:DA}{Ao:DAO}
theorem Reps.atI (h:Reps K F ds vs)(e:L2.atI ds i=some d): ∃v,L2.atI vs i=some v/\Rep K F d v:=by
 unfold L2.atI at e ⊢
 rw[h.length]at e
 cases q:ixN vs.length i with
 |none=>rw[q]at e;cases e
 |some j=>
  rw[q]at e
  exact h.get e
def ixL:DR2:=λx y P=>match x,y with
 | .lst ds,.int i=>∃d,atI ds i=some d/\P d
 |_,_=>False
def ixT:DR2:=λx y P=>match x,y with
 | .tup ds,.int i=>∃d,atI ds i=some d/\P d
 |_,_=>False
def ixS:DR2:=λx y P=>match x,y with
 | .str z,.int i=>z.length<=1000000/\∃c,atI z.cps.toList i=some c/\P (.str ⟨#[c]⟩)
 |_,_=>False
def OpF (K:Frag)(R:R2)(r:DR2):Prop:=∀F H x y v u P Q,Same F H->Rep K F x v->Rep K F y u->r x y P->(∀d w,P d->Rep K F d w->Q w H)->R v u H Q
theorem OpF.b (h:OpF K R r): OpB K R r:=λH x y v u P Q rx ry w q=>h H H x y v u P Q (Same.refl _) rx ry w q
theorem sF_opF (h:OpF K R r)(ha:SimF K ta Ea)(hb:SimF K tb Eb): SimF K (tOp R ta tb) (dOp r Ea Eb):=λF0 H0 F H Y δ P Q e w q=>
 ha F0 H0 F H Y δ _ _ e w λx v F1 H1 w1 x1 r1=>hb F0 H0 F1 H1 Y δ _ _ (e.on x1) w1 λy u F2 H2 w2 x2 r2=>
  h F2 H2 x y v u P _ x2.fh (r1.mono x2.ff) r2 w2 λd w p r'=>q d w F2 H2 p (x1.trans x2) r'
theorem oF_ixL:OpF K (rIxL K) ixL:=λF H x y v u P Q s rx ry w q=>by
 unfold ixL at w
 split at w
 .obtain ⟨d,e,w⟩:=w
  obtain⟨p,vs,rfl,h1,h2⟩:=rx
  obtain⟨v',e',r⟩:=h2.atI e
  exact⟨p,vs,_,v',rfl,ry,s.seq h1,e',q d v' w r⟩
 .exact w.elim
theorem Xat:OpF K (rIxT K) ixT:=λF H x y v u P Q s rx ry w q=>by
 unfold ixT at w
 split at w
 .obtain ⟨d,e,w⟩:=w
  obtain⟨p,vs,rfl,h1,h2⟩:=rx
  obtain⟨v',e',r⟩:=h2.atI e
  exact⟨p,vs,_,v',rfl,ry,s.seqT h1,e',q d v' w r⟩
 .exact w.elim
def CbS (K:Frag)(R:List V->Hp->VK->Prop)(r:List D->(D->Prop)->Prop):Prop:=∀F H ds vs P Q,Same F H->Reps K H ds vs->r ds P->(∀d w F' H',P d->Ext F H F' H'->Rep K F' d w->Q w H')->R vs H Q
def CbO (K:Frag)(R:List V->Hp->VK->Prop)(r:List D->(OV->Prop)->Prop):Prop:=∀F H ds vs P Q,Same F H->Reps K F ds vs->r ds P->(∀o w F' H',P o->Ext F H F' H'->RepN K H F' H' o w->Q w H')->R vs H Q
def dCB (r:List D->(D->Prop)->Prop)(As:DA):DE:=λδ P=>As δ λds=>r ds P
def dCBo (r:List D->(OV->Prop)->Prop)(As:DA):DO:=λδ P=>As δ λds=>r ds P
theorem sF_cb {R:List V->Hp->VK->Prop}{r:List D->(D->Prop)->Prop}(h:CbS K R r)(ha:SimAB K a As): SimF K (tCB R a) (dCB r As):=λF0 H0 F H Y δ P Q e w q=>
 ha F0 H0 F H Y δ _ _ e w λds vs F1 H1 w1 x1 r1=>h F1 H1 ds vs P _ x1.fh r1 w1 λd w F' H' p x' r'=>q d w F' H' p (x1.trans x') r'
theorem sO_cb {R:List V->Hp->VK->Prop}{r:List D->(OV->Prop)->Prop}(h:CbO K R r)(ha:SimAF K a As): SimO K (tCB R a) (dCBo r As):=λF0 H0 F H Y δ P Q e w q=>
 ha F0 H0 F H Y δ _ _ e w λds vs F1 H1 w1 x1 r1=>h F1 H1 ds vs P _ x1.fh r1 w1 λd w F' H' p x' r'=>q d w F' H' p (x1.trans x') (r'.old x1.hh)
theorem reps1 (h:Reps K F [d] vs): ∃v,vs=[v]/\Rep K F d v:=by
 obtain⟨v,r,rfl,h1,h2⟩:=h
 exact⟨v,by rw[show r=[] from h2],h1⟩
theorem reps2 (h:Reps K F [d,d'] vs): ∃v u,vs=[v,u]/\Rep K F d v/\Rep K F d' u:=by
 obtain⟨v,r,rfl,h1,h2⟩:=h
 obtain⟨u,rfl,h3⟩:=reps1 h2
 exact⟨v,u,rfl,h1,h3⟩
def lenD:List D->(D->Prop)->Prop:=λds P=>match ds with
 | [.lst xs]=>P (.int xs.length)
 | [.tup xs]=>P (.int xs.length)
 |_=>False
def lenS:List D->(D->Prop)->Prop:=λds P=>match ds with
 | [.str x]=>x.length<=1000000/\P (.int x.length)
 |_=>False
theorem cS_len:CbS K (λxs H Q=>∃p ys,xs=[.ref p]/\(SqL K H p ys∨SqT K H p ys)/\Q (.int ys.length) H) lenD:=λF H ds vs P Q s rs w q=>by
 unfold lenD at w
 split at w
 .obtain ⟨v,rfl,p,us,rfl,h1,h2⟩:=reps1 rs
  exact⟨p,us,rfl,.inl h1,by rw[<- h2.length];exact q _ _ F H w (Ext.refl s) rfl⟩
 .obtain ⟨v,rfl,p,us,rfl,h1,h2⟩:=reps1 rs
  exact⟨p,us,rfl,.inr h1,by rw[<- h2.length];exact q _ _ F H w (Ext.refl s) rfl⟩
 .exact w.elim
theorem cS_lenS:CbS K (λxs H Q=>∃z,xs=[.str z]/\z.length<=sizeLine/\Q (.int z.length) H) lenS:=λF H ds vs P Q s rs w q=>by
 unfold lenS at w
 split at w
 .obtain ⟨v,rfl,r⟩:=reps1 rs
  exact⟨_,by rw[show v=_ from r],sz_le w.1,q _ _ F H w.2 (Ext.refl s) rfl⟩
 .exact w.elim
def absD:List D->(D->Prop)->Prop:=λds P=>match ds with
 | [.int i]=>P (.int i.natAbs)
 |_=>False
theorem cS_abs:CbS K (λxs H Q=>∃i,xs=[.int i]/\Q (.int (if i<0 then -i else i)) H) absD:=λF H ds vs P Q s rs w q=>by
 unfold absD at w
 split at w
 .rename_i i
  obtain⟨v,rfl,r⟩:=reps1 rs
  refine⟨i,by rw[show v=_ from r],?_⟩
  rw[show (if i<0 then -i else i)=(i.natAbs:Int) by split<;>lia]
  exact q _ _ F H w (Ext.refl s) rfl
 .exact w.elim
def listD:List D->(OV->Prop)->Prop:=λds P=>match ds with
 | [.lst xs]=>P (.nl (xs.map .fz))
 | [.tup xs]=>P (.nl (xs.map .fz))
 |_=>False
theorem RepN.list (h0:H l=none)(f0:F' l=none)(h:H' l=some (.lst vs))(r:Reps K F' ds vs): RepN K H F' H' (.nl (ds.map .fz)) (.ref l):=
 ⟨[l],⟨l,vs,[],rfl,rfl,h,Xa5.fzs r⟩,by simp,λa ha=>by
  have e:a=l:=by simpa using ha
  rw[e];exact⟨h0,f0⟩⟩
theorem Ext.grow (s:Same F H)(h:Same H H'): Ext F H F H':=⟨Same.refl _,h,s.trans h,λ_ _ z _ _=>z⟩
theorem cO_list:CbO K (rListS K) listD:=λF H ds vs P Q s rs w q=>by
 unfold listD at w
 split at w
 .obtain ⟨v,rfl,p,us,rfl,h1,h2⟩:=reps1 rs
  exact⟨p,us,rfl,.inl (s.seq h1),λl H' l0 sm l1=>q _ _ F H' w (Ext.grow s sm) (RepN.list l0 (s.free l0) l1 h2)⟩
 .obtain ⟨v,rfl,p,us,rfl,h1,h2⟩:=reps1 rs
  exact⟨p,us,rfl,.inr (s.seqT h1),λl H' l0 sm l1=>q _ _ F H' w (Ext.grow s sm) (RepN.list l0 (s.free l0) l1 h2)⟩
 .exact w.elim
abbrev DPt:=Dst->(Option Int->Prop)->Prop
def SimP (K:Frag)(t:TO)(E:DPt):Prop:=∀F0 H0 F H Y δ P Q,EnvR K F0 H0 F H Y δ->E δ P->(∀o F' H',P o->Ext F H F' H'->Q o H')->t Y H Q
def dNoPt:DPt:=λ_ P=>P none
def dPt (E:DE):DPt:=λδ P=>E δ λd=>match d with
 | .int i=>P (some i)
 |_=>False
theorem sP_no:SimP K tNoPart dNoPt:=λF0 H0 F H Y δ P Q e w q=>q none F H w (Ext.refl e.ext.fh)
theorem sP_pt (h:SimB K t E): SimP K (tPart t) (dPt E):=λF0 H0 F H Y δ P Q e w q=>h F0 H0 F H Y δ _ _ e w λd v F1 H1 w1 x1 r1=>by
 split at w1
 .exact ⟨_,r1,q _ F1 H1 w1 x1⟩
 .exact w1.elim
def cutD (xs:List D)(lo hi:Option Int):List D:=(xs.drop (HT.sIx xs.length 0 lo)).take (HT.sIx xs.length xs.length hi-HT.sIx xs.length 0 lo)
theorem Reps.cut (h:Reps K F ds vs)(lo hi:Option Int): Reps K F (cutD ds lo hi) (cutV vs lo hi):=by
 unfold cutD cutV
 rw[h.length]
 exact (h.drop _).take _
def dSlL (Ea:DE)(L U:DPt):DO:=λδ P=>Ea δ λx=>L δ λlo=>U δ λhi=>match x with
 | .lst xs=>P (.nl ((cutD xs lo hi).map .fz))
 |_=>False
theorem sO_slL (ha:SimF K ta Ea)(hl:SimP K tl L)(hu:SimP K tu U): SimO K (tSl (rSlS K) ta tl tu) (dSlL Ea L U):=λF0 H0 F H Y δ P Q e w q=>
 ha F0 H0 F H Y δ _ _ e w λx v F1 H1 w1 x1 r1=>hl F0 H0 F1 H1 Y δ _ _ (e.on x1) w1 λlo F2 H2 w2 x2=>hu F0 H0 F2 H2 Y δ _ _ ((e.on x1).on x2) w2 λhi F3 H3 w3 x3=>by
  have x13:=x1.trans (x2.trans x3)
  split at w3
  .obtain ⟨p,vs,rfl,h1,h2⟩:=r1.mono (x2.ff.trans x3.ff)
   exact⟨p,vs,rfl,x3.fh.seq h1,λl H' l0 sm l1=>q _ _ F3 H' w3 (x13.trans (Ext.grow x3.fh sm)) (RepN.list (x13.hh.free l0) (x3.fh.free l0) l1 (h2.cut lo hi))⟩
  .exact w3.elim
mutual
def OV.lf:OV->Bool
 | .fz d=>d.lf
 | .nl ts=>OV.lfs ts
 | .rt _ ts=>OV.lfs ts
 | .fx _ d=>d.lf
 | .ob _ _ _ ts=>OV.lfs ts
def OV.lfs:List OV->Bool
 | []=>true
 |t::ts=>t.lf && OV.lfs ts
end
theorem OV.lfs_eq:∀(ts:List OV),OV.lfs ts=ts.all OV.lf
 | []=>rfl
 |d::ds=>by simp[OV.lfs,OV.lfs_eq ds]
mutual
theorem RepO.lf (s:Same F F'): ∀{t:OV} {v:V} {A:List Addr},RepO K F' H' t v A->t.lf=true->RepO K (frzT F F') H' t v A
 | .fz d,v,A,h,z=>⟨h.1,Rep.lf s h.2 (by simpa[OV.lf] using z)⟩
 | .nl ts,v,A,h,z=>by
  obtain⟨a,vs,B,e,e2,h1,h2⟩:=h
  exact⟨a,vs,B,e,e2,h1,Xa5.lf s h2 (by simpa[OV.lf] using z)⟩
 | .fx u d,v,A,h,z=>⟨h.1,h.2.1,Rep.lf s h.2.2 (by simpa[OV.lf] using z)⟩
 | .rt a ts,v,A,h,z=>by
  obtain⟨vs,B,e,e2,h1,h2⟩:=h
  exact⟨vs,B,e,e2,h1,Xa5.lf s h2 (by simpa[OV.lf] using z)⟩
 | .ob o c ns ts,v,A,h,z=>by
  obtain⟨a,C,dx,vs,B,e,e2,h0,ho,h1,h2,hl,h3⟩:=h
  exact⟨a,C,dx,vs,B,e,e2,h0,ho,h1,h2,hl,Xa5.lf s h3 (by simpa[OV.lf] using z)⟩
theorem Xa5.lf {F F' H':Hp}(s:Same F F'):∀{ts:List OV} {vs:List V} {A:List Addr},Xa5 K F' H' ts vs A->OV.lfs ts=true->Xa5 K (frzT F F') H' ts vs A
 | [],_,_,h,_=>h
 |t::ts,vs,A,h,z=>by
  obtain⟨v,r,B,C,e1,e2,h1,h2⟩:=h
  simp[OV.lfs]at z
  exact⟨v,r,B,C,e1,e2,RepO.lf s h1 z.1,Xa5.lf s h2 z.2⟩
end
abbrev DSp:=List D->(OV->Prop)->Prop
def spV (K:Frag)(n:Nat)(sp:DSp):Sp:=spL n λvs H Q=>∃F ds P,Same F H/\Reps K F ds vs/\sp ds P/\∀r v F' H',P r->Ext F H F' H'->RepN K H F' H' r v->Q v H'
def dCall (n:Nat)(sp:DSp)(As:DA):DO:=λδ P=>As δ λds=>ds.length=n/\sp ds P
def dCallB (n:Nat)(sp:DSp)(As:DA):DO:=λδ P=>As δ λds=>ds.length=n/\sp ds λr=>r.lf=true/\P r
theorem Xar (ha:SimAF K a As): SimO K (tCall (spV K n sp) [] E0 a) (dCall n sp As):=λF0 H0 F H Y δ P Q e w q=>ha F0 H0 F H Y δ _ _ e w λds vs F1 H1 w1 x1 r1=>by
 rw[List.append_nil]
 exact⟨by rw[<- r1.length];exact w1.1,F1,ds,P,x1.fh,r1,w1.2,λr v F' H' p x' r'=>q r v F' H' p (x1.trans x') (r'.old x1.hh)⟩
theorem sO_callB (ha:SimAB K a As): SimO K (tCall (spV K n sp) [] E0 a) (dCallB n sp As):=λF0 H0 F H Y δ P Q e w q=>ha F0 H0 F H Y δ _ _ e w λds vs F1 H1 w1 x1 r1=>by
 rw[List.append_nil]
 refine⟨by rw[<- r1.length];exact w1.1,H1,ds,_,Same.refl _,r1,w1.2,λr v F' H' p x' r'=>?_⟩
 have s1:Same F1 F':=x1.fh.trans x'.ff
 have x2:=frzT_ext s1
 obtain⟨A,a1,a2,a3⟩:=r'
 refine q r v (frzT F1 F') H' p.2 (x1.trans ⟨x2.ff,x'.hh,x2.fh.trans x'.fh,λb o z1 z2 z3=>?_⟩) ⟨A,a1.lf s1 p.1,a2,λb hb=>⟨x1.hh.free (a3 b hb).1,x2.fh.free (a3 b hb).2⟩⟩
 exact x2.no b o z1 (x'.ff _ _ z2) z3
end
section
variable {K:Frag}{te ti ta:TE}{E Ea Ei:DE}{Eo:DO}{t u:TS}{T U:DS}
def sNext:DS:=λDe δ=>De.nx δ
def sSeq (T U:DS):DS:=λDe δ=>T {De with nx:=U De} δ
theorem sS_next:SimS K tNext sNext:=λF0 H0 F H Y δ De E e l w=>l.nx F H Y δ e w
theorem Xan (h:SimS K t T)(g:SimS K u U): SimS K (tSeq t u) (sSeq T U):=λF0 H0 F H Y δ De E e l w=>
 h F0 H0 F H Y δ {De with nx:=U De} _ e ⟨λF1 H1 Y1 δ1 e1 w1=>g F0 H0 F1 H1 Y1 δ1 De E e1 l w1,l.bk,l.ct,l.rt⟩ w
def sBreak:DS:=λDe δ=>De.bk δ
theorem sS_break:SimS K tBreak sBreak:=λF0 H0 F H Y δ De E e l w=>l.bk F H Y δ e w
def sRet (E:DO):DS:=λDe δ=>E δ De.rt
theorem Xa1 (h:SimO K te Eo): SimS K (tRet te) (sRet Eo):=λF0 H0 F H Y δ De En e l w=>h F0 H0 F H Y δ _ _ e w λr v F' H' p x n=>l.rt F' H' r v (e.ext.trans x) (n.old e.ext.hh) p
def sRetV (i:Nat):DS:=λDe δ=>match δ[i]? with
 |some (some (.own t))=>De.rt t
 |_=>False
theorem sS_retV:SimS K (tRet (tVar i)) (sRetV i):=λF0 H0 F H Y δ De En ⟨A,e⟩ l w=>by
 unfold sRetV at w
 split at w
 .rename_i t ht
  obtain⟨v,h1,h2⟩:=e.own i t ht
  exact⟨v,h1,l.rt F H t v e.ext ⟨A i,h2,e.nod i,λa ha=>⟨(e.new i a ha).2.1,(e.new i a ha).1⟩⟩ w⟩
 .exact w.elim
def sIf (C:DT)(T U:DS):DS:=λDe δ=>C δ λb=>if b=true then T De δ else U De δ
theorem sS_if (h:SimT K c C)(ht:SimS K t T)(hu:SimS K u U): SimS K (tIfS c t u) (sIf C T U):=λF0 H0 F H Y δ De En e l w=>h F0 H0 F H Y δ _ _ e w λb F' H' p x=>by
 cases b with
 |true=>exact iteT (ht F0 H0 F' H' Y δ De En (e.on x) l p)
 |false=>exact iteB rfl (hu F0 H0 F' H' Y δ De En (e.on x) l p)
def sSet (i:Nat)(E:DO):DS:=λDe δ=>E δ λr=>De.nx (δ.set i (some (.own r)))
theorem sS_set (h:SimO K te Eo): SimS K (tAsg te (gName i)) (sSet i Eo):=λF0 H0 F H Y δ De En e l w=>h F0 H0 F H Y δ _ _ e w λr v F' H' p x n=>l.nx F' H' _ _ (e.put x i n) p
def sAug (i:Nat)(r:DR2)(E:DE):DS:=λDe δ=>dV i δ λx=>E δ λy=>r x y λz=>De.nx (δ.set i (some (.own (.fz z))))
theorem sS_aug (ho:OpS K R r)(h:SimB K te E): SimS K (tAug i te R) (sAug i r E):=λF0 H0 F H Y δ De En e l w=>by
 obtain⟨v,hv,w⟩:=Xaf F0 H0 F H Y δ _ (λv H'=>te Y H' λy H1=>R v y H1 λz H2=>En.nx (Y.set i (some z)) H2) e w λd v F1 H1 p x1 r1=>h F0 H0 F1 H1 Y δ _ _ (e.on x1) p λy u F2 H2 p2 x2 r2=>ho F2 H2 d y v u _ _ x2.fh (r1.mono (x1.fh.trans x2.hh |> λs=>s)) r2 p2 λz w F3 H3 p3 x3 r3=>l.nx F3 H3 _ _ (((e.on x1).on x2).put x3 i (.fz r3)) p3
 exact⟨v,hv,w⟩
def gN (i:Nat):D->Dst->(Dst->Prop)->Prop:=λd δ P=>P (δ.set i (some (.own (.fz d))))
theorem sG_name:SimG K (gName i) (gN i):=λF0 H0 F H Y δ A d v P Q e r w q=>q _ _ _ w (e.putFz i r) λj a ha=>by
 split at ha
 .cases ha
 .exact ha
def gsNil:List D->Dst->(Dst->Prop)->Prop:=λds δ P=>match ds with
 | []=>P δ
 |_=>False
def gsCons (G:D->Dst->(Dst->Prop)->Prop)(Gs:List D->Dst->(Dst->Prop)->Prop):List D->Dst->(Dst->Prop)->Prop:=λds δ P=>match ds with
 |d::r=>G d δ λδ'=>Gs r δ' P
 |_=>False
theorem sGs_nil:SimGs K gNil gsNil:=λF0 H0 F H Y δ A ds vs P Q e r w q=>by
 unfold gsNil at w
 split at w
 .exact ⟨r,q _ _ A w e λ_ _ z=>z⟩
 .exact w.elim
theorem sGs_cons {G:D->Dst->(Dst->Prop)->Prop}{Gs:List D->Dst->(Dst->Prop)->Prop}(h:SimG K g G)(hs:SimGs K gs Gs): SimGs K (gCons g gs) (gsCons G Gs):=λF0 H0 F H Y δ A ds vs P Q e r w q=>by
 unfold gsCons at w
 split at w
 .obtain ⟨v,r',rfl,h1,h2⟩:=r
  exact⟨v,r',rfl,h F0 H0 F H Y δ A _ v _ _ e h1 w λY' δ' A' w' e' sb=>hs F0 H0 F H Y' δ' A' _ r' P Q e' h2 w' λY2 δ2 A2 w2 e2 sb2=>q Y2 δ2 A2 w2 e2 λi a z=>sb i a (sb2 i a z)⟩
 .exact w.elim
def gT (n:Nat)(Gs:List D->Dst->(Dst->Prop)->Prop):D->Dst->(Dst->Prop)->Prop:=λd δ P=>match d with
 | .tup ds=>ds.length=n/\Gs ds δ P
 |_=>False
theorem sG_tup {Gs:List D->Dst->(Dst->Prop)->Prop}(hs:SimGs K gs Gs): SimG K (gTup K n gs) (gT n Gs):=λF0 H0 F H Y δ A d v P Q e r w q=>by
 unfold gT at w
 split at w
 .obtain ⟨a,vs,rfl,h1,h2⟩:=r
  exact⟨a,vs,rfl,e.ext.fh.seqT h1,by rw[<- h2.length];exact w.1,hs F0 H0 F H Y δ A _ vs P Q e h2 w.2 q⟩
 .exact w.elim
def sAsg (E:DE)(G:D->Dst->(Dst->Prop)->Prop):DS:=λDe δ=>E δ λd=>G d δ De.nx
theorem sS_asg {G:D->Dst->(Dst->Prop)->Prop}(h:SimF K te E)(hg:SimG K g G): SimS K (tAsg te g) (sAsg E G):=λF0 H0 F H Y δ De En e l w=>h F0 H0 F H Y δ _ _ e w λd v F' H' p x r=>
 let⟨A,e⟩:=e
 hg F0 H0 F' H' Y δ A d v _ _ (e.on x) r p λY' δ' A' w' e' _=>l.nx F' H' Y' δ' ⟨A',e'⟩ w'
theorem ER.change {A:Nat->List Addr}(e:ER K F0 H0 F H Y δ A)(i:Nat)(hv:Y[i]?=some (some v))(hr:RepO K F H' t' v B)(hB:B.Nodup)
  (hBn:∀b∈B,F b=none/\H0 b=none) (dj:∀j,j≠i->∀b∈B,b∉A j) (keep:∀b o,b∉A i->H b=some o->H' b=some o): EnvR K F0 H0 F H' Y (δ.set i (some (.own t'))):=by
 have hi:i<δ.length:=by rw[<- e.len];exact (List.getElem?_eq_some_iff.mp hv).1
 refine⟨λj=>if j=i then B else A j,by simp[e.len],⟨e.ext.ff,λb o h=>?_,λb o h=>?_,e.ext.no⟩,λj t hj=>?_,λj d hj=>?_,λj=>?_,λj k a hjk h1 h2=>?_,λj a ha=>?_⟩
 .exact keep b o (λz=>by rw[(e.new i b z).2.1]at h;cases h) (e.ext.hh _ _ h)
 .exact keep b o (λz=>by rw[(e.new i b z).1]at h;cases h) (e.ext.fh _ _ h)
 .by_cases z:j=i
  .subst z
   rw[if_pos rfl]
   rw[List.getElem?_set_self hi]at hj
   cases hj
   exact⟨v,hv,hr⟩
  .rw [if_neg z]
   rw[List.getElem?_set_ne (Ne.symm z)]at hj
   obtain⟨u,h1,h2⟩:=e.own j t hj
   exact⟨u,h1,h2.frame (Same.refl _) λa ha xs h=>keep a _ (e.dis j i a z ha) h⟩
 .by_cases z:j=i
  .subst z
   rw[List.getElem?_set_self hi]at hj
   cases hj
  .rw [List.getElem?_set_ne (Ne.symm z)]at hj
   exact e.bw j d hj
 .split
  .exact hB
  .exact e.nod j
 .split at h1
  .split at h2
   .lia
   .rename_i z1 z2
    exact dj k z2 a h1 h2
  .split at h2
   .rename_i z1 z2
    exact dj j z1 a h2 h1
   .exact e.dis j k a hjk h1 h2
 .split at ha
  .exact ⟨(hBn a ha).1,(hBn a ha).2,hr.isl a ha⟩
  .rename_i z
   obtain⟨h1,h2,xs,h3,himm⟩:=e.new j a ha
   exact⟨h1,h2,xs,keep a _ (e.dis j i a z ha) h3,himm⟩
def sApp (i:Nat)(E:DO):DS:=λDe δ=>match δ[i]? with
 |some (some (.own (.nl ts)))=>ts.length<1000000/\E δ λr=>De.nx (δ.set i (some (.own (.nl (ts++[r])))))
 |_=>False
theorem Xax (h:b≠a)(e:H b=some o'): upd H a o b=some o':=by rw[upd_ne h];exact e
theorem sS_app (h:SimO K te Eo): SimS K (tDrop (tBM K "list" rAppend (tVar i) (tCons te tNil))) (sApp i Eo):=λF0 H0 F H Y δ De En e l w=>by
 obtain⟨A,e⟩:=e
 unfold sApp at w
 split at w
 .rename_i ts hs
  obtain⟨pl,w⟩:=w
  obtain⟨v,hv,a,vs,B,rfl,eA,ha,hB⟩:=e.own i _ hs
  refine⟨_,hv,.inl ⟨rfl,_,SqL.of ha⟩,?_⟩
  refine h F0 H0 F H Y δ _ _ ⟨A,e⟩ w λr u F1 H1 p x1 n=>?_
  obtain⟨C,c1,c2,c3⟩:=n
  have e1:=e.on x1
  have hl:=hB.length
  refine⟨a,vs,u,rfl,rfl,x1.hh _ _ ha,sz_lt (by lia),?_⟩
  have hB1:Xa5 K F1 H1 ts vs B:=hB.frame x1.ff λb _ xs z=>x1.hh _ _ z
  have hnd:=e.nod i
  rw[eA]at hnd
  obtain⟨n1,n2⟩:=List.nodup_cons.mp hnd
  have hCA:∀j b,b∈C->b∉A j:=λj b hb z=>by
   obtain⟨_,_,xs,q,_⟩:=e.new j b z
   rw[(c3 b hb).1]at q;cases q
  have haC:a∉C:=λz=>hCA i a z (by rw[eA];exact List.mem_cons_self)
  refine l.nx F1 _ Y _ (e1.change i hv (t':=.nl (ts++[r])) (B:=a::(B++C)) ⟨a,vs++[u],B++C,rfl,rfl,Xa0,?_⟩ ?_ ?_ ?_ ?_) p
  .exact Xa5.append (hB1.frame (Same.refl _) λb hb xs z=>Xax (λq=>n1 (by rw[<- q];exact hb)) z) (Xa5.one (c1.frame (Same.refl _) λb hb xs z=>Xax (λq=>haC (by rw[<- q];exact hb)) z))
  .refine List.nodup_cons.mpr ⟨λz=>?_,List.nodup_append.mpr ⟨n2,c2,λx hx y hy z=>?_⟩⟩
   .rcases List.mem_append.mp z with z |z
    .exact n1 z
    .exact haC z
   .subst z
    exact hCA i x hy (by rw[eA];exact List.mem_cons_of_mem _ hx)
  .intro b hb
   have hb':b∈A i∨b∈C:=by
    rw[eA]
    rcases List.mem_cons.mp hb with z |z
    .exact .inl (by rw[z];exact List.mem_cons_self)
    .rcases List.mem_append.mp z with z |z
     .exact .inl (List.mem_cons_of_mem _ z)
     .exact .inr z
   rcases hb' with z |z
   .exact ⟨(e1.new i b z).1,(e1.new i b z).2.1⟩
   .exact ⟨(c3 b z).2,e.ext.hh.free (c3 b z).1⟩
  .intro j hj b hb z
   rcases List.mem_cons.mp hb with q |q
   .subst q;exact e.dis j i b hj z (by rw[eA];exact List.mem_cons_self)
   .rcases List.mem_append.mp q with q |q
    .exact e.dis j i b hj z (by rw[eA];exact List.mem_cons_of_mem _ q)
    .exact hCA j b q z
  .intro b o hb q
   exact Xax (λz=>hb (by rw[eA,z];exact List.mem_cons_self)) q
 .exact w.elim
def sPut (i:Nat)(Ei:DE)(E:DO):DS:=λDe δ=>E δ λr=>match δ[i]? with
 |some (some (.own (.nl ts)))=>Ei δ λk=>match k with
  | .int k=>∃j,ixN ts.length k=some j/\De.nx (δ.set i (some (.own (.nl (ts.set j r)))))
  |_=>False
 |_=>False
theorem sS_put (h:SimO K te Eo)(hi:SimB K ti Ei): SimS K (tAsg te (gSub (tVar i) ti rSetL)) (sPut i Ei Eo):=λF0 H0 F H Y δ De En e l w=>by
 refine h F0 H0 F H Y δ _ _ e w λr u F1 H1 p x1 n=>?_
 obtain⟨A,e⟩:=e
 split at p
 .rename_i ts hs
  have e1:=e.on x1
  obtain⟨v,hv,a,vs,B,rfl,eA,ha,hB⟩:=e1.own i _ hs
  refine⟨_,hv,?_⟩
  refine hi F0 H0 F1 H1 Y δ _ _ ⟨A,e1⟩ p λk kv F2 H2 p2 x2 r2=>?_
  split at p2
  .rename_i k
   obtain⟨j,hj,p2⟩:=p2
   have e2:=e1.on x2
   have ha2:=x2.hh _ _ ha
   have hB2:Xa5 K F2 H2 ts vs B:=hB.frame x2.ff λb _ xs z=>x2.hh _ _ z
   obtain⟨C,c1,c2,c3⟩:=n
   have c1':RepO K F2 H2 r u C:=c1.frame x2.ff λb _ xs z=>x2.hh _ _ z
   have hl:=hB.length
   refine⟨a,vs,k,j,rfl,r2,ha2,by rw[<- hl];exact hj,?_⟩
   have hjl:j<ts.length:=by
    unfold ixN at hj
    split at hj
    .split at hj
     .cases hj;lia
     .cases hj
    .split at hj
     .cases hj;lia
     .cases hj
   obtain⟨v0,A1,B0,A2,f1,rfl,f3,f4⟩:=hB2.focus (List.getElem?_eq_getElem hjl)
   have hnd:=e.nod i
   rw[eA]at hnd
   obtain⟨n1,n2⟩:=List.nodup_cons.mp hnd
   have hCA:∀j b,b∈C->b∉A j:=λj b hb z=>by
    obtain⟨_,_,xs,q,_⟩:=e.new j b z
    rw[(c3 b hb).1]at q;cases q
   have haC:a∉C:=λz=>hCA i a z (by rw[eA];exact List.mem_cons_self)
   have sub:∀b,b∈A1++A2->b∈A1++(B0++A2):=λb hb=>by
    rcases List.mem_append.mp hb with z |z<;>simp[z]
   have ina:∀b,b∈a::(A1++(C++A2))->b∈A i∨b∈C:=λb hb=>by
    rw[eA]
    rcases List.mem_cons.mp hb with z |z
    .exact .inl (by rw[z];exact List.mem_cons_self)
    .rcases List.mem_append.mp z with z |z
     .exact .inl (by simp[z])
     .rcases List.mem_append.mp z with z |z
      .exact .inr z
      .exact .inl (by simp[z])
   refine l.nx F2 _ Y _ (e2.change i hv (t':=.nl (ts.set j r)) (B:=a::(A1++(C++A2))) ⟨a,vs.set j u,_,rfl,rfl,Xa0,f4 F2 _ r u C (Same.refl _) (λb hb xs z=>?_) (c1'.frame (Same.refl _) λb hb xs z=>Xax (λq=>haC (by rw[<- q];exact hb)) z)⟩ ?_ ?_ ?_ ?_) p2
   .exact Xax (λq=>n1 (by rw[<- q];exact sub b hb)) z
   .obtain ⟨m1,m2,m3⟩:=List.nodup_append.mp n2
    obtain⟨k1,k2,k3⟩:=List.nodup_append.mp m2
    refine List.nodup_cons.mpr ⟨λz=>?_,List.nodup_append.mpr ⟨m1,List.nodup_append.mpr ⟨c2,k2,λx hx y hy z=>?_⟩,λx hx y hy z=>?_⟩⟩
    .rcases List.mem_append.mp z with z |z
     .exact n1 (by simp[z])
     .rcases List.mem_append.mp z with z |z
      .exact haC z
      .exact n1 (by simp[z])
    .subst z
     exact hCA i x hx (by rw[eA];simp[hy])
    .rcases List.mem_append.mp hy with q |q
     .subst z
      exact hCA i x q (by rw[eA];simp[hx])
     .exact m3 x hx y (by simp[q]) z
   .intro b hb
    rcases ina b hb with z |z
    .exact ⟨(e2.new i b z).1,(e2.new i b z).2.1⟩
    .obtain ⟨xs,q,himm⟩:=c1.isl b z
     exact⟨x2.no b _ (c3 b z).2 q himm,e.ext.hh.free (c3 b z).1⟩
   .intro j' hj' b hb z
    rcases ina b hb with q |q
    .exact e.dis j' i b hj' z q
    .exact hCA j' b q z
   .intro b o hb q
    exact Xax (λz=>hb (by rw[eA,z];exact List.mem_cons_self)) q
  .exact p2.elim
 .exact p.elim
def sAugI (i:Nat)(g:Int->Int->Int)(Ei E:DE):DS:=λDe δ=>match δ[i]? with
 |some (some (.own (.nl ts)))=>Ei δ λk=>match k with
  | .int k=>0<=k/\∃x,ts[k.toNat]?=some (.fz (.int x))/\E δ λy=>match y with
   | .int y=>De.nx (δ.set i (some (.own (.nl (ts.set k.toNat (.fz (.int (g x y))))))))
   |_=>False
  |_=>False
 |_=>False
theorem sS_augI {g:Int->Int->Int}(hi:SimB K ti Ei)(h:SimB K te E): SimS K (tAugS (tVar i) ti te (rGetL K) (ipI g) rSetL) (sAugI i g Ei E):=λF0 H0 F H Y δ De En e l w=>by
 obtain⟨A,e⟩:=e
 unfold sAugI at w
 split at w
 .rename_i ts hs
  obtain⟨v,hv,a,vs,B,rfl,eA,ha,hB⟩:=e.own i _ hs
  refine⟨_,hv,?_⟩
  refine hi F0 H0 F H Y δ _ _ ⟨A,e⟩ w λk kv F1 H1 p x1 r1=>?_
  split at p
  .rename_i k
   obtain⟨k0,x,hx,p⟩:=p
   have e1:=e.on x1
   have ha1:=x1.hh _ _ ha
   have hB1:Xa5 K F1 H1 ts vs B:=hB.frame x1.ff λb _ xs z=>x1.hh _ _ z
   obtain⟨v0,A1,B0,A2,f1,rfl,f3,f4⟩:=hB1.focus hx
   obtain⟨rfl,f3⟩:=f3
   refine⟨a,vs,k,v0,rfl,r1,SqL.of ha1,k0,f1,?_⟩
   refine h F0 H0 F1 H1 Y δ _ _ ⟨A,e1⟩ p λy yv F2 H2 p2 x2 r2=>?_
   split at p2
   .rename_i y
    have e2:=e1.on x2
    have hjl:k.toNat<vs.length:=(List.getElem?_eq_some_iff.mp f1).1
    refine⟨x,y,f3,r2,a,vs,k,k.toNat,rfl,r1,x2.hh _ _ ha1,?_,?_⟩
    .unfold ixN
     rw[if_pos k0,if_pos (by lia)]
    .have hnd:=e.nod i
     rw[eA]at hnd
     obtain⟨n1,n2⟩:=List.nodup_cons.mp hnd
     refine l.nx F2 _ Y _ (e2.change i hv (t':=.nl (ts.set k.toNat (.fz (.int (g x y))))) (B:=a::(A1++([]++A2))) ⟨a,_,_,rfl,rfl,Xa0,f4 F2 _ (.fz (.int (g x y))) _ [] x2.ff (λb hb xs z=>Xax (λq=>n1 (by rw[<- q];exact hb)) (x2.hh _ _ z)) ⟨rfl,rfl⟩⟩ ?_ ?_ ?_ ?_) p2
     .exact hnd
     .intro b hb
      exact⟨(e2.new i b (by rw[eA];exact hb)).1,(e2.new i b (by rw[eA];exact hb)).2.1⟩
     .intro j hj b hb z
      exact e.dis j i b hj z (by rw[eA];exact hb)
     .intro b o hb q
      exact Xax (λz=>hb (by rw[eA,z];exact List.mem_cons_self)) q
   .exact p2.elim
  .exact p.elim
 .exact w.elim
end
section
variable {K:Frag}{te ti ta tl:TE}{E Ea Ei El:DE}{Eo:DO}{t u:TS}{T U:DS}{a:TA}{As:DA}
theorem ER.rebase {A:Nat->List Addr}(e:ER K F0 H0 F H Y δ A): ER K F H0 F H Y δ A:=⟨e.len,⟨Same.refl _,e.ext.hh,e.ext.fh,λ_ _ z _ _=>z⟩,e.own,e.bw,e.nod,e.dis,e.new⟩
theorem EnvR.rebase (e:EnvR K F0 H0 F H Y δ): EnvR K F H0 F H Y δ:=let⟨A,e⟩:=e;⟨A,e.rebase⟩
theorem Ext.unbase (x:Ext F0 H0 F1 H1)(y:Ext F1 H0 F H): Ext F0 H0 F H:=⟨x.ff.trans y.ff,y.hh,y.fh,λa o z1 z2 z3=>y.no a o (x.no a o z1 z2 z3) z2 z3⟩
theorem EnvR.unbase (x:Ext F0 H0 F1 H1)(e:EnvR K F1 H0 F H Y δ): EnvR K F0 H0 F H Y δ:=let⟨A,e⟩:=e;⟨A,e.len,x.unbase e.ext,e.own,e.bw,e.nod,e.dis,e.new⟩
def sWhile (C:DT)(T:DS):DS:=λDe δ=>∃W:Nat->Dst->Prop,(∃m,W m δ)/\∀m δ,W m δ->C δ λb=>if b=true then T {nx:=λδ'=>∃m',m'<m/\W m' δ',ct:=λδ'=>∃m',m'<m/\W m' δ',bk:=De.nx,rt:=De.rt} δ else De.nx δ
theorem sS_while (h:SimT K c C)(ht:SimS K t T): SimS K (tWhile c t) (sWhile C T):=λF0 H0 F H Y δ De En e l w=>by
 obtain⟨W,⟨m0,w0⟩,hW⟩:=w
 refine⟨λm Y H=>∃F δ,EnvR K F0 H0 F H Y δ/\W m δ,⟨m0,F,δ,e,w0⟩,?_⟩
 rintro m Y1 H1 ⟨F1,δ1,e1,w1⟩
 refine h F0 H0 F1 H1 Y1 δ1 _ _ e1 (hW m δ1 w1) λb F2 H2 p x=>?_
 cases b with
 |true=>
  refine iteT ⟨λY' H'=>∃m',m'<m/\∃F δ,EnvR K F0 H0 F H' Y' δ/\W m' δ,λY' H' z=>z,?_⟩
  refine ht F0 H0 F2 H2 Y1 δ1 {nx:=λδ'=>∃m',m'<m/\W m' δ',ct:=λδ'=>∃m',m'<m/\W m' δ',bk:=De.nx,rt:=De.rt} _ (e1.on x) ⟨λF3 H3 Y3 δ3 e3 ⟨m',hm,w3⟩=>⟨m',hm,F3,δ3,e3,w3⟩,l.nx,λF3 H3 Y3 δ3 e3 ⟨m',hm,w3⟩=>⟨m',hm,F3,δ3,e3,w3⟩,l.rt⟩ p
 |false=>exact iteB rfl (l.nx F2 H2 Y1 δ1 (e1.on x) p)
def ItR (K:Frag)(F:Hp)(J:It)(ds:List D):Prop:=∀F1 H1,Same F F1->Same F1 H1->(∀i,i<ds.length->J.go i H1)/\J.stop ds.length H1/\∀i x H2,i<ds.length->J.yld i H1 x H2->∃d F2,ds[i]?=some d/\Ext F1 H1 F2 H2/\Rep K F2 d x
def SimI (K:Frag)(wi:TI)(I:DA):Prop:=∀F0 H0 F H Y δ P R,EnvR K F0 H0 F H Y δ->I δ P->(∀ds J F' H',P ds->Ext F H F' H'->ItR K F' J ds->R J H')->wi Y H R
def ForW (G:D->Dst->(Dst->Prop)->Prop)(T:DS)(De:DEnds)(ds:List D)(δ:Dst):Prop:=∃W:Nat->Dst->Prop,W 0 δ/\
 (∀i d δ,ds[i]?=some d->W i δ->G d δ λδ'=>T {nx:=W (i+1),ct:=W (i+1),bk:=De.nx,rt:=De.rt} δ')/\∀δ,W ds.length δ->De.nx δ
def sFor (I:DA)(G:D->Dst->(Dst->Prop)->Prop)(T:DS):DS:=λDe δ=>I δ λds=>ForW G T De ds δ
theorem sS_for {G:D->Dst->(Dst->Prop)->Prop}(hi:SimI K wi I)(hg:SimG K g G)(ht:SimS K t T): SimS K (tFor wi g t) (sFor I G T):=λF0 H0 F H Y δ De En e l w=>
 hi F0 H0 F H Y δ _ _ e w λds J F1 H1 p x1 hJ=>by
  have b1:=(e.on x1).ext
  obtain⟨W,w0,ws,wd⟩:=p
  refine⟨λi m Y H=>m=ds.length-i/\i<=ds.length/\∃F δ,EnvR K F1 H0 F H Y δ/\W i δ,⟨ds.length,rfl,Nat.zero_le _,F1,δ,(e.on x1).rebase,w0⟩,?_⟩
  rintro i m Y2 H2 ⟨rfl,hil,F2,δ2,⟨A2,e2⟩,w2⟩
  obtain⟨j1,j2,j3⟩:=hJ F2 H2 e2.ext.ff e2.ext.fh
  by_cases hlt:i<ds.length
  .refine .inr ⟨j1 i hlt,λY' H'=>∃F δ,EnvR K F1 H0 F H' Y' δ/\W (i+1) δ,λY' H' ⟨F3,δ3,e3,w3⟩=>⟨ds.length-(i+1),by omega,rfl,hlt,F3,δ3,e3,w3⟩,λx H3 y=>?_⟩
   obtain⟨d,F3,hd,x3,r3⟩:=j3 i x H3 hlt y
   refine hg F1 H0 F3 H3 Y2 δ2 A2 d x _ _ (e2.on x3) r3 (ws i d δ2 hd w2) λY4 δ4 A4 w4 e4 _=>?_
   exact ht F1 H0 F3 H3 Y4 δ4 {nx:=W (i+1),ct:=W (i+1),bk:=De.nx,rt:=De.rt} _ ⟨A4,e4⟩ ⟨λF5 H5 Y5 δ5 e5 w5=>⟨F5,δ5,e5,w5⟩,λF5 H5 Y5 δ5 e5 w5=>l.nx F5 H5 Y5 δ5 (e5.unbase b1) w5,λF5 H5 Y5 δ5 e5 w5=>⟨F5,δ5,e5,w5⟩,λF5 H5 r v x5 n5 w5=>l.rt F5 H5 r v (b1.unbase x5) n5 w5⟩ w4
  .have hi':i=ds.length:=by lia
   subst hi'
   exact .inl ⟨j2,l.nx F2 H2 Y2 δ2 (EnvR.unbase b1 ⟨A2,e2⟩) (wd _ w2)⟩
def dItL (El:DE):DA:=λδ P=>El δ λd=>match d with
 | .lst ds=>P ds
 |_=>False
def dItT (El:DE):DA:=λδ P=>El δ λd=>match d with
 | .tup ds=>P ds
 |_=>False
theorem sI_list (h:SimF K tl El): SimI K (iList K tl) (dItL El):=λF0 H0 F H Y δ P R e w q=>h F0 H0 F H Y δ _ _ e w λd v F' H' p x r=>by
 split at p
 .obtain ⟨a,vs,rfl,h1,h2⟩:=r
  refine⟨a,rfl,⟨vs,x.fh.seq h1⟩,q _ _ F' H' p x λF1 H1 s1 s2=>?_⟩
  have hl:=h2.length
  have hq:=(s1.trans s2).seq h1
  refine⟨λi hi=>⟨vs,vs[i],hq,List.getElem?_eq_getElem (by lia)⟩,⟨vs,hq,by lia⟩,λi x H2 hi y=>?_⟩
  obtain⟨rfl,y⟩:=y
  obtain⟨d,hd,rd⟩:=h2.get' (y vs hq)
  exact⟨d,F1,hd,Ext.refl s2,rd.mono s1⟩
 .exact p.elim
theorem sI_tup (h:SimF K tl El): SimI K (iTup K tl) (dItT El):=λF0 H0 F H Y δ P R e w q=>h F0 H0 F H Y δ _ _ e w λd v F' H' p x r=>by
 split at p
 .obtain ⟨a,vs,rfl,h1,h2⟩:=r
  refine⟨a,rfl,⟨vs,x.fh.seqT h1⟩,q _ _ F' H' p x λF1 H1 s1 s2=>?_⟩
  have hl:=h2.length
  have hq:=(s1.trans s2).seqT h1
  refine⟨λi hi=>⟨vs,vs[i],hq,List.getElem?_eq_getElem (by lia)⟩,⟨vs,hq,by lia⟩,λi x H2 hi y=>?_⟩
  obtain⟨rfl,y⟩:=y
  obtain⟨d,hd,rd⟩:=h2.get' (y vs hq)
  exact⟨d,F1,hd,Ext.refl s2,rd.mono s1⟩
 .exact p.elim
def rng (lo c:Int)(n:Nat):List D:=(List.range n).map λ(i:Nat)=>D.int (lo+i*c)
theorem rng_len {lo c:Int}{n:Nat}:(rng lo c n).length=n:=by simp[rng]
theorem rng_get {lo c:Int}{n i:Nat}(h:i<n):(rng lo c n)[i]?=some (.int (lo+i*c)):=by simp[rng,h]
theorem rng_inv {lo c:Int}{n i:Nat}{d:D}(h:(rng lo c n)[i]?=some d):i<n/\d = .int (lo+i*c):=by
 have hi:i<n:=by
  have:=(List.getElem?_eq_some_iff.mp h).1
  rwa[rng_len]at this
 rw[rng_get hi]at h
 exact⟨hi,(Option.some.inj h).symm⟩
theorem itR_itr {F:Hp}{lo:Int}{n:Nat}:ItR K F (Itr lo n) (rng lo 1 n):=λF1 H1 s1 s2=>by
 rw[rng_len]
 refine⟨λi hi=>hi,Nat.le_refl _,λi x H2 hi y=>?_⟩
 obtain⟨rfl,rfl⟩:=y
 exact⟨_,F1,rng_get hi,Ext.refl s2,by rw[Int.mul_one];rfl⟩
theorem itR_itrs {F:Hp}{lo c:Int}{n:Nat}:ItR K F (Itrs lo c n) (rng lo c n):=λF1 H1 s1 s2=>by
 rw[rng_len]
 refine⟨λi hi=>hi,Nat.le_refl _,λi x H2 hi y=>?_⟩
 obtain⟨rfl,rfl⟩:=y
 exact⟨_,F1,rng_get hi,Ext.refl s2,rfl⟩
def dRng1 (As:DA):DA:=λδ P=>As δ λds=>match ds with
 | [.int j]=>(-(2^62)<=j/\j<2^62)/\P (rng 0 1 j.toNat)
 |_=>False
def dRng3 (As:DA):DA:=λδ P=>As δ λds=>match ds with
 | [.int i,.int j,.int c]=>(-(2^61)<=i/\i<2^61/\-(2^61)<=j/\j<2^61/\0<c/\c<2^29)/\P (rng i c (rngN i j c))
 |_=>False
theorem reps3 (h:Reps K F [d,d',d''] vs): ∃v u w,vs=[v,u,w]/\Rep K F d v/\Rep K F d' u/\Rep K F d'' w:=by
 obtain⟨v,r,rfl,h1,h2⟩:=h
 obtain⟨u,w,rfl,h3,h4⟩:=reps2 h2
 exact⟨v,u,w,rfl,h1,h3,h4⟩
theorem sI_rng1 (h:SimAB K a As): SimI K (iRng1 a) (dRng1 As):=λF0 H0 F H Y δ P R e w q=>h F0 H0 F H Y δ _ _ e w λds vs F' H' p x r=>by
 split at p
 .obtain ⟨v,rfl,r1⟩:=reps1 r
  exact⟨_,by rw[show v=_ from r1],p.1.1,p.1.2,q _ _ F' H' p.2 x itR_itr⟩
 .exact p.elim
theorem sI_rng3 (h:SimAB K a As): SimI K (iRng3 a) (dRng3 As):=λF0 H0 F H Y δ P R e w q=>h F0 H0 F H Y δ _ _ e w λds vs F' H' p x r=>by
 split at p
 .obtain ⟨v,u,z,rfl,r1,r2,r3⟩:=reps3 r
  exact⟨_,_,_,by rw[show v=_ from r1,show u=_ from r2,show z=_ from r3],p.1,q _ _ F' H' p.2 x itR_itrs⟩
 .exact p.elim
def dRev (As:DA):DA:=λδ P=>As δ λds=>match ds with
 | [.tup xs]=>P xs.reverse
 |_=>False
theorem sI_rev (h:SimAF K a As):SimI K (iRev K a) (dRev As):=λF0 H0 F H Y δ P R e w q=>h F0 H0 F H Y δ _ _ e w λds vs F' H' p x r=>by
 split at p
 .obtain ⟨v,rfl,a,us,rfl,h1,h2⟩:=reps1 r
  have hl:=h2.length
  refine⟨a,us,rfl,x.fh.seqT h1,q _ _ F' H' p x λF1 H1 s1 s2=>?_⟩
  have hq:=(s1.trans s2).seqT h1
  rw[List.length_reverse]
  refine⟨λi hi=>⟨us,us[us.length-1-i]'(by omega),hq,rfl,by lia,List.getElem?_eq_getElem (by omega)⟩,by show us.length<=_;lia,λi x H2 hi y=>?_⟩
  obtain⟨rfl,y⟩:=y
  obtain⟨d,hd,rd⟩:=h2.get' (y us hq)
  refine⟨d,F1,?_,Ext.refl s2,rd.mono s1⟩
  rw[List.getElem?_reverse hi,hl];exact hd
 .exact p.elim
def blkD (ix:List (Option Nat))(δ:Dst):Dst:=ix.map λo=>match o with
 |none=>none
 |some i=>match δ[i]? with
  |some (some (.own (.fz d)))=>some (.own (.fz d))
  |some (some (.own (.fx _ d)))=>some (.own (.fz d))
  |some (some (.own t))=>some (.bw t.val)
  |some (some (.bw d))=>some (.bw d)
  |_=>none
def CmpW (G:D->Dst->(Dst->Prop)->Prop)(Eo:DO)(ds:List D)(δ:Dst)(P:OV->Prop):Prop:=∃W:Nat->Dst->List OV->Prop,W 0 δ []/\
 (∀i d δ ts,ds[i]?=some d->W i δ ts->ts.length<1000000/\G d δ λδ'=>Eo δ' λr=>W (i+1) δ' (ts++[r]))/\∀δ ts,W ds.length δ ts->P (.nl ts)
def dComp (I:DA)(ix:List (Option Nat))(G:D->Dst->(Dst->Prop)->Prop)(Eo:DO):DO:=λδ P=>I δ λds=>CmpW G Eo ds (blkD ix δ) P
theorem ER.blk {A:Nat->List Addr}(e:ER K F0 H0 F H Y δ A)(ix:List (Option Nat))(s:Same H H'): ER K F H F H' (blkσ ix Y) (blkD ix δ) (λ_=>[]):=by
 have get:∀(j:Nat) (s:Sl),(blkD ix δ)[j]?=some (some s)->∃(i:Nat) (v:V),(blkσ ix Y)[j]?=some (some v)/\Y[i]?=some (some v)/\((∃d,s = .own (.fz d)/\Rep K F d v)∨∃d,s = .bw d/\Rep K H d v):=by
  intro j s hj
  unfold blkD at hj
  rw[List.getElem?_map]at hj
  cases q:ix[j]? with
  |none=>rw[q]at hj;cases hj
  |some o=>
   rw[q]at hj
   cases o with
   |none=>cases hj
   |some i=>
    have fin:∀v,Y[i]?=some (some v)->(blkσ ix Y)[j]?=some (some v):=λv hv=>by
     unfold blkσ
     rw[List.getElem?_map,q]
     simp[hv]
    have hj':=Option.some.inj hj
    dsimp only at hj'
    split at hj'
    .rename_i d hd
     cases hj'
     obtain⟨v,h1,h2⟩:=e.own i _ hd
     exact⟨i,v,fin v h1,h1,.inl ⟨d,rfl,h2.2⟩⟩
    .rename_i u d hd
     cases hj'
     obtain⟨v,h1,h2⟩:=e.own i _ hd
     exact⟨i,v,fin v h1,h1,.inl ⟨d,rfl,h2.2.2⟩⟩
    .rename_i t _ _ hd
     cases hj'
     obtain⟨v,h1,h2⟩:=e.own i _ hd
     exact⟨i,v,fin v h1,h1,.inr ⟨_,rfl,h2.rep e.ext.fh λa _ xs z=>z⟩⟩
    .rename_i d hd
     cases hj'
     obtain⟨v,h1,h2⟩:=e.bw i _ hd
     exact⟨i,v,fin v h1,h1,.inr ⟨_,rfl,h2.mono e.ext.hh⟩⟩
    .cases hj'
 refine⟨by simp[blkσ,blkD],Ext.grow e.ext.fh s,λj t hj=>?_,λj d hj=>?_,λ_=>List.nodup_nil,(λ_ _ _ _ h=>by cases h),(λ_ _ h=>by cases h)⟩
 .obtain ⟨i,v,h1,h2,h3⟩:=get j _ hj
  rcases h3 with⟨d,h3,h4⟩ | ⟨d,h3,_⟩
  .cases h3;exact⟨v,h1,rfl,h4⟩
  .cases h3
 .obtain ⟨i,v,h1,h2,h3⟩:=get j _ hj
  rcases h3 with⟨d',h3,h4⟩ | ⟨d',h3,h4⟩
  .cases h3
  .cases h3;exact⟨v,h1,h4⟩
theorem sO_comp {G:D->Dst->(Dst->Prop)->Prop}(hi:SimI K wi I)(hg:SimG K g G)(he:SimO K te Eo): SimO K (tComp wi ix g te) (dComp I ix G Eo):=λF0 H0 F H Y δ P Q e w q=>
 hi F0 H0 F H Y δ _ _ e w λds J F1 H1 p x1 hJ=>by
  intro L hL
  obtain⟨A,e⟩:=e.on x1
  obtain⟨W,w0,ws,wd⟩:=p
  have f1:Same F1 H1:=x1.fh
  refine⟨λi m Y ys H=>m=ds.length-i/\i<=ds.length/\∃F δ ts B,ER K F1 H1 F H Y δ (λ_=>[])/\W i δ ts/\F L=none/\H L=some (.lst ys)/\Xa5 K F H ts ys B/\(L::B).Nodup/\∀b∈B,H1 b=none/\F b=none,
   ⟨ds.length,rfl,Nat.zero_le _,F1,_,[],[],e.blk ix (Same.new hL),w0,f1.free hL,Xa0,⟨rfl,rfl⟩,by simp,λ_ h=>by cases h⟩,?_⟩
  rintro i m Y2 ys H2 ⟨rfl,hil,F2,δ2,ts,B,e2,w2,l1,l2,hr,nd,nw⟩
  obtain⟨j1,j2,j3⟩:=hJ F2 H2 e2.ext.ff e2.ext.fh
  by_cases hlt:i<ds.length
  .obtain ⟨d0,hd0⟩:∃d,ds[i]?=some d:=⟨_,List.getElem?_eq_getElem hlt⟩
   have hl:=hr.length
   refine .inr ⟨sz_lt (by have:=(ws i d0 δ2 ts hd0 w2).1;lia),j1 i hlt,λx H3 y=>?_⟩
   obtain⟨d,F3,hd,x3,r3⟩:=j3 i x H3 hlt y
   refine hg F1 H1 F3 H3 Y2 δ2 (λ_=>[]) d x _ _ (e2.on x3) r3 (ws i d δ2 ts hd w2).2 λY4 δ4 A4 w4 e4 sub=>?_
   have e4':ER K F1 H1 F3 H3 Y4 δ4 (λ_=>[]):=by
    have:A4=λ_=>[]:=funext λk=>List.eq_nil_iff_forall_not_mem.mpr λb hb=>by cases sub k b hb
    rw[this]at e4;exact e4
   refine he F1 H1 F3 H3 Y4 δ4 _ _ ⟨_,e4'⟩ w4 λr v F5 H5 p5 x5 n5=>?_
   have x25:=x3.trans x5
   have l5:=x25.hh _ _ l2
   have l5f:=x25.no L _ l1 l2 rfl
   refine⟨l5,ds.length-(i+1),by lia,rfl,hlt,F5,δ4,ts++[r],?_⟩
   obtain⟨C,c1,c2,c3⟩:=n5
   obtain⟨n1,n2⟩:=List.nodup_cons.mp nd
   have hLC:L∉C:=λz=>by
    have q:=(c3 L z).1
    rw[x3.hh _ _ l2]at q;cases q
   have hBC:∀b,b∈B->b∉C:=λb hb z=>by
    obtain⟨xs,q,himm⟩:=hr.isl b hb
    have:=(c3 b z).1
    rw[x3.hh _ _ q]at this;cases this
   have e5:=e4'.on x5
   refine⟨B++C,⟨e5.len,⟨e5.ext.ff,λb o h=>?_,λb o h=>?_,e5.ext.no⟩,λj t hj=>?_,e5.bw,e5.nod,e5.dis,λ_ _ h=>by cases h⟩,p5,l5f,Xa0,?_,?_,λb hb=>?_⟩
   .exact Xax (λz=>by rw[z,hL]at h;cases h) (e5.ext.hh _ _ h)
   .exact Xax (λz=>by rw[z,l5f]at h;cases h) (e5.ext.fh _ _ h)
   .obtain ⟨u,h1,h2⟩:=e5.own j t hj
    exact⟨u,h1,h2.frame (Same.refl _) λ_ z=>by cases z⟩
   .exact Xa5.append (hr.frame x25.ff λb hb xs z=>Xax (λq=>n1 (by rw[<- q];exact hb)) (x25.hh _ _ z)) (Xa5.one (c1.frame (Same.refl _) λb hb xs z=>Xax (λq=>hLC (by rw[<- q];exact hb)) z))
   .refine List.nodup_cons.mpr ⟨λz=>?_,List.nodup_append.mpr ⟨n2,c2,λx hx y hy z=>by subst z;exact hBC x hx hy⟩⟩
    rcases List.mem_append.mp z with z |z
    .exact n1 z
    .exact hLC z
   .rcases List.mem_append.mp hb with z |z
    .obtain ⟨xs,qq,himm⟩:=hr.isl b z
     exact⟨(nw b z).1,x25.no b _ (nw b z).2 qq himm⟩
    .exact ⟨(e2.ext.hh.trans x3.hh).free (c3 b z).1,(c3 b z).2⟩
  .have hi':i=ds.length:=by lia
   subst hi'
   refine .inl ⟨j2,q _ _ F2 H2 (wd _ _ w2) (x1.trans e2.ext) ⟨L::B,⟨L,ys,B,rfl,rfl,l2,hr⟩,nd,λb hb=>?_⟩⟩
   rcases List.mem_cons.mp hb with rfl |z
   .exact ⟨x1.hh.free hL,l1⟩
   .exact ⟨x1.hh.free (nw b z).1,(nw b z).2⟩
def startV (N:List Str)(ds:List D):Dst:=ds.map (λd=>some (.own (.fz d)))++List.replicate (N.length-ds.length) none
theorem startV_er (s:Same F H)(h:Reps K F ds vs): ER K F H F H (start N vs) (startV N ds) (λ_=>[]):=by
 have hl:=h.length
 refine⟨by simp[start,startV,hl],Ext.refl s,λi t hi=>?_,λi d hi=>?_,λ_=>List.nodup_nil,(λ_ _ _ _ h=>by cases h),(λ_ _ h=>by cases h)⟩
 .unfold startV at hi
  by_cases z:i<ds.length
  .rw [List.getElem?_append_left (by simpa using z),List.getElem?_map,List.getElem?_eq_getElem z]at hi
   simp at hi
   subst hi
   obtain⟨v,h1,h2⟩:=h.get (List.getElem?_eq_getElem z)
   refine⟨v,?_,rfl,h2⟩
   unfold start
   rw[List.getElem?_append_left (by simp;lia),List.getElem?_map,h1]
   rfl
  .rw [List.getElem?_append_right (by simpa using z)]at hi
   have:=List.mem_of_getElem? hi
   rw[List.mem_replicate]at this
   cases this.2
 .unfold startV at hi
  by_cases z:i<ds.length
  .rw [List.getElem?_append_left (by simpa using z),List.getElem?_map]at hi
   simp at hi
  .rw [List.getElem?_append_right (by simpa using z)]at hi
   have:=List.mem_of_getElem? hi
   rw[List.mem_replicate]at this
   cases this.2
end
theorem CalV.of {P:Program}{w:World}{K:Frag}{mg:Str->Option Value}{base:Heap}{x:Str}{st:Stmt}{f:Addr}{fd:FuncData}{N ps:List Str}{k n:Nat}{sp:DSp}(Df:DefAt K mg x st f fd)(S:FnScope N ps (Xac st))
  (hb:∀(kV doc pm:Value) (an:Option Addr) (cdv ct:Value) (us:List Value),us.length=ps.length->bindArgs (PySem.W.fnOf x x (defArgs st) (Xa4 st) (Xac st) .none kV doc pm an cdv ct) ⟨us,[]⟩=pure (ps.zip us)) (hn:n=ps.length)
  (hbody:∀(cdv:Value) (A:Around) (outer:List Env) (s:Shared) (H:Hp) (E:XK),Room k (A.deeper (envOfC x (Xac st) s.heap.objs.size f cdv))->
   ∃t T,PSs (cxOf CX0 P w K mg base N x (Xac st) f cdv A outer s H E).nox (Xa4 st) t/\SimS K t T/\∀ds Pr,sp ds Pr->T {nx:=λ_=>Pr (.fz .non),rt:=Pr} (startV N ds)):Cal P w K mg base x (k+1) ps (spV K n sp):=
 Cal.of Df S hb (λvs H Q E h=>by rw[<- hn];exact h.1) λcdv A outer s H vs Q E hr h=>by
  obtain⟨_,F,ds,Pr,hs,hr',hsp,hq⟩:=h
  obtain⟨t,T,h1,h2,h3⟩:=hbody cdv A outer s H E hr
  refine⟨t,h1,h2 F H F H (start N vs) (startV N ds) {nx:=λ_=>Pr (.fz .non),rt:=Pr} _ ⟨_,startV_er hs hr'⟩ ⟨λF' H' Y δ e p=>?_,λ_ _ _ _ _ z=>z.elim,λ_ _ _ _ _ z=>z.elim,λF' H' r v x n p=>hq r v F' H' p x n⟩ (h3 ds Pr hsp)⟩
  exact hq _ _ F' H' p e.ext (.fz rfl)
section
variable {X:Cx}{K:Frag}
def D.tyN:D->String
 | .int _ => "int"
 | .bl _ => "bool"
 | .non => "NoneType"
 | .str _ => "str"
 | .ty _ => "type"
 | .fn _ => "function"
 | .tup _ => "tuple"
 | .lst _ => "list"
 | .dic => "dict"
 | .exc _ => "exception"
 | .obj _ _ _ => "object"
 | .clo _ _ _ _ => "function"
def rIsID (K:Frag):List V->Hp->VK->Prop:=λxs H Q=>∃d v n b,xs=[v,.ty n]/\Rep K H d v/\((∀m,d≠.ty m)/\(∀x,d≠.fn x)/\(∀x,d≠.exc x)/\(∀c ns ds,d≠.obj c ns ds)/\∀a b c e,d≠.clo a b c e)/\PySem.W.kitOne K (.type d.tyN) (.type n)=some b/\Q (.bl b) H
theorem call_isiD:CallR X (.builtin "isinstance") (rIsID X.K):=by
 intro pins s Y H xs us Q I r h
 obtain⟨d,x,n,b,rfl,rp,⟨hty,hfn,hex,hany⟩,e,q⟩:=h
 obtain⟨u,w',rfl,r1,r2⟩:=vals2 r
 cases r2
 have fin:∀tk,EP X pins Y Q (.bool b) {s with toks:=tk}:=λtk=>⟨.bl b,H,I.tok tk,rfl,q⟩
 cases d with
 |int i=>cases rp;exact isinst_ok I r1 (TyOf.int i) e fin
 |bl i=>cases rp;exact isinst_ok I r1 (TyOf.bl i) e fin
 |non=>cases rp;exact isinst_ok I r1 TyOf.non e fin
 |str i=>cases rp;exact isinst_ok I r1 (TyOf.str i) e fin
 |ty i=>exact absurd rfl (hty i)
 |fn i=>exact absurd rfl (hfn i)
 |tup ds=>
  obtain⟨a,vs,rfl,h1,h2⟩:=rp
  cases (show u=Value.ref a from r1)
  obtain⟨its,rv,p,hz⟩:=I.tuple h1
  obtain⟨o,q1,q2,_⟩:=p
  exact PySem.W.kia_one PySem.W.kitx_tuple I.kIn ⟨o,q1,q2⟩ e (λz=>nomatch z) fin
 |lst ds=>
  obtain⟨a,vs,rfl,h1,h2⟩:=rp
  cases (show u=Value.ref a from r1)
  obtain⟨its,rv,p,hz⟩:=I.list h1
  obtain⟨o,q1,q2,_⟩:=p.isList
  exact PySem.W.kia_one PySem.W.kitx_list I.kIn ⟨o,q1,q2⟩ e (λz=>nomatch z) fin
 |dic=>
  obtain⟨a,rfl,h1⟩:=rp
  cases (show u=Value.ref a from r1)
  obtain⟨⟨o,q1,q2⟩,_,_⟩:=I.hok a _ h1
  exact PySem.W.kia_one PySem.W.kitx_dict I.kIn ⟨o,q1,q2⟩ e (λz=>nomatch z) fin
 |exc c=>exact absurd rfl (hex c)
 |obj c ns ds=>exact absurd rfl (hany.1 c ns ds)
 |clo q1 q2 q3 q4=>exact absurd rfl (hany.2 q1 q2 q3 q4)
def kitB (d:D)(n:String):Bool:=match d with
 | .int _=>n == "int"
 | .bl _=>n == "bool" ||n == "int"
 | .str _=>n == "str"
 | .tup _=>n == "tuple"
 | .lst _=>n == "list"
 |_=>false
def kitNs:List String:=["int","bool","str","tuple","list"]
structure KitV (K:Frag):Prop where
 all:∀d:D,((∀m,d≠.ty m)/\(∀x,d≠.fn x)/\(∀x,d≠.exc x)/\(∀c ns ds,d≠.obj c ns ds)/\∀a b c e,d≠.clo a b c e)->∀n∈kitNs,PySem.W.kitOne K (.type d.tyN) (.type n)=some (kitB d n)
def isiD:List D->(D->Prop)->Prop:=λds P=>match ds with
 | [.ty _,.ty _]=>False
 | [.fn _,.ty _]=>False
 | [.exc _,.ty _]=>False
 | [.obj _ _ _,.ty _]=>False
 | [.clo _ _ _ _,.ty _]=>False
 | [d,.ty n]=>n∈kitNs/\P (.bl (kitB d n))
 |_=>False
theorem cS_isi (KT:KitV K): CbS K (rIsID K) isiD:=λF H ds vs P Q s rs w q=>by
 unfold isiD at w
 split at w
 .exact w.elim
 .exact w.elim
 .exact w.elim
 .exact w.elim
 .exact w.elim
 .rename_i d n h1 h0 h2 h3 h4
  obtain⟨v,u,rfl,r1,r2⟩:=reps2 rs
  have ht:∀m,d≠.ty m:=λm z=>h1 m z
  have hf:∀m,d≠.fn m:=λm z=>h0 m z
  have hx:∀m,d≠.exc m:=λm z=>h2 m z
  have hy:(∀c ns ds,d≠.obj c ns ds)/\∀a b c e,d≠.clo a b c e:=⟨λc ns ds z=>h3 c ns ds z,λa b c e z=>h4 a b c e z⟩
  exact⟨d,v,n,_,by rw[show u=_ from r2],r1,⟨ht,hf,hx,hy⟩,KT.all d ⟨ht,hf,hx,hy⟩ n w.1,q _ _ F H w.2 (Ext.refl s) rfl⟩
 .exact w.elim
theorem oS_ip {g:Int->Int->Int}: OpS K (ipI g) (rI2 λi j=>.int (g i j)):=λF H x y v u P Q s rx ry w q=>by
 obtain⟨i,j,rfl,rfl,p⟩:=rI2_inv w
 exact⟨i,j,rx,ry,q _ _ F H p (Ext.refl s) rfl⟩
theorem atI_c0 {α:Type}{a:α}{xs:List α}:atI (a::xs) 0=some a:=atI_nat rfl
theorem atI_c1 {α:Type}{a b:α}{xs:List α}:atI (a::b::xs) 1=some b:=atI_nat rfl
theorem atI_c2 {α:Type}{a b c:α}{xs:List α}:atI (a::b::c::xs) 2=some c:=atI_nat rfl
theorem atI_c3 {α:Type}{a b c d:α}{xs:List α}:atI (a::b::c::d::xs) 3=some d:=atI_nat rfl
theorem atI_c4 {α:Type}{a b c d e:α}{xs:List α}:atI (a::b::c::d::e::xs) 4=some e:=atI_nat rfl
theorem atI_ints {xs:List Int}{i:Int}(h0:0<=i)(h:i<xs.length):atI (xs.map D.int) i=some (.int (xs.getD i.toNat 0)):=by
 have hi:i.toNat<xs.length:=by lia
 have e:=atI_nat (xs:=xs.map D.int) (j:=i.toNat) (v:=.int (xs.getD i.toNat 0)) (by simp[hi])
 rwa[show ((i.toNat:Nat):Int)=i by lia]at e
theorem fzs_val {ds:List D}:OV.vals (ds.map OV.fz)=ds:=by
 rw[OV.vals_eq]
 simp[Function.comp_def,OV.val]
theorem mulL (h1 : -1000000<=i)(h2:i<=1000000): CMul i j:=.inl ⟨by lia,by lia⟩
theorem mulR {i j:Int}(h1 : -1000000<=j)(h2:j<=1000000):CMul i j:=.inr ⟨by lia,by lia⟩
theorem mget {α β:Type}{xs:List α}{f:α->β}{i:Nat}{d:β}(h:(xs.map f)[i]?=some d):∃x,xs[i]?=some x/\d=f x:=by
 rw[List.getElem?_map]at h
 cases q:xs[i]? with
 |none=>rw[q]at h;cases h
 |some x=>rw[q]at h;exact⟨x,rfl,(Option.some.inj h).symm⟩
theorem val_fzI {xs:List Int}:List.map OV.val (xs.map λx=>OV.fz (D.int x))=xs.map D.int:=by
 rw[List.map_map];rfl
theorem get_fzI {xs:List Int}{i:Int}(h0:0<=i)(h:i<xs.length):(xs.map λx=>OV.fz (D.int x))[i.toNat]?=some (.fz (.int (xs.getD i.toNat 0))):=by
 have hi:i.toNat<xs.length:=by lia
 simp[hi]
theorem set_fzI {xs:List Int}{i:Nat}{v:Int}:(xs.map λx=>OV.fz (D.int x)).set i (.fz (.int v))=(xs.set i v).map λx=>OV.fz (D.int x):=by
 rw[List.map_set]
theorem app_fzI:(xs.map λx=>OV.fz (D.int x))++[.fz (.int v)]=(xs++[v]).map λx=>OV.fz (D.int x):=by
 rw[List.map_append];rfl
theorem fz_int {xs:List Int}:(xs.map D.int).map OV.fz=xs.map λx=>OV.fz (D.int x):=by
 rw[List.map_map];rfl
theorem kn_int:("int"∈kitNs)=True:=eq_true (by decide)
theorem kn_bool:("bool"∈kitNs)=True:=eq_true (by decide)
theorem kn_tuple:("tuple"∈kitNs)=True:=eq_true (by decide)
theorem kn_list:("list"∈kitNs)=True:=eq_true (by decide)
theorem nat10:(Int.natAbs 10<2^64)=True:=eq_true (by decide)
theorem CmpW.map {α:Type}{Eo:DO}{o:Option Sl}{rest:Dst}{P:OV->Prop}(xs:List α)(g:α->D)(f:α->OV)(hn:xs.length<=1000000)
  (h:∀x∈xs,∀Q:OV->Prop,Q (f x)->Eo (some (.own (.fz (g x)))::rest) Q) (k:P (.nl (xs.map f))):CmpW (gN 0) Eo (xs.map g) (o::rest) P:=by
 refine⟨λi δ ts=>∃o,δ=o::rest/\ts=(xs.take i).map f,⟨o,rfl,rfl⟩,?_,?_⟩
 .rintro i d δ ts hd ⟨o,rfl,rfl⟩
  obtain⟨x,hx,rfl⟩:=mget hd
  obtain⟨hi,e⟩:=List.getElem?_eq_some_iff.mp hx
  refine⟨by rw[List.length_map,List.length_take];lia,h x (List.mem_of_getElem? hx) _ ⟨_,rfl,?_⟩⟩
  rw[List.take_succ_eq_append_getElem hi,e,List.map_append]
  rfl
 .rintro δ ts ⟨o,rfl,rfl⟩
  rw[List.length_map,List.take_length]
  exact k
theorem CmpW.rng {Eo:DO}{o:Option Sl}{rest:Dst}{P:OV->Prop}{lo c:Int}{n:Nat}(f:Nat->OV)(hn:n<=1000000)
  (h:∀i,i<n->∀Q:OV->Prop,Q (f i)->Eo (some (.own (.fz (.int (lo+i*c))))::rest) Q) (k:P (.nl ((List.range n).map f))):CmpW (gN 0) Eo (rng lo c n) (o::rest) P:=
 CmpW.map (List.range n) _ f (by simpa using hn) (λi hi Q q=>h i (List.mem_range.mp hi) Q q) k
theorem sSeq_k (h:∀N:Dst->Prop,(∀δ',U De δ'->N δ')->T {De with nx:=N} δ): sSeq T U De δ:=h _ λ_ z=>z
end
end L2
namespace PySem
open AutoSeq1
abbrev lwSeq (T:String)(od:Option Addr)(xs:Array Value)(k:Nat)(sl:Array (Option Value)):Obj:={cls:=.type T,dict:=od,data:=.seq xs k,slots:=sl}
theorem lw_extend_list (l b:Addr)(xs ys:Array Value)(k m:Nat)(od:Option Addr)(sl:Array (Option Value))(h0:¬(!xs.isEmpty && Builtin.List.listTooLong (xs.size+ys.size))=true)(h1:xs.size<=sizeLine)(h2:xs.size+ys.size<=sizeLine+1):
  Meets (Builtin.«list.extend» ⟨[.ref l,.ref b],[]⟩) (λ_ R s=>s.heap.get? l=some (lwSeq "list" none xs k #[])/\s.heap.get? b=some (lwSeq "list" od ys m sl)/\R (.ok (.ret .none)) {s with heap:=s.heap.update l (Obj.mapSeq (·++ys)),toks:=s.toks}):=by
 refine .of_wp λprog w A R s hR=>?_
 obtain⟨e1,e2,fin⟩:=hR
 have room:(xs++ys).size<=sizeLine+1:=by
  rw[Array.size_append]
  exact h2
 wp_walk using (wpAny_updateSeq e1 rfl (_hz':=room)),wpAny_loadPart' e1,wpAny_loadPart' e2
 exact⟨_,rfl,fin⟩
theorem lw_extend_tuple (l b:Addr)(xs ys:Array Value)(k m:Nat)(od:Option Addr)(sl:Array (Option Value))(h0:¬(!xs.isEmpty && Builtin.List.listTooLong (xs.size+ys.size))=true)(h1:xs.size<=sizeLine)(h2:xs.size+ys.size<=sizeLine+1):
  Meets (Builtin.«list.extend» ⟨[.ref l,.ref b],[]⟩) (λ_ R s=>s.heap.get? l=some (lwSeq "list" none xs k #[])/\s.heap.get? b=some (lwSeq "tuple" od ys m sl)/\R (.ok (.ret .none)) {s with heap:=s.heap.update l (Obj.mapSeq (·++ys)),toks:=s.toks}):=by
 refine .of_wp λprog w A R s hR=>?_
 obtain⟨e1,e2,fin⟩:=hR
 have room:(xs++ys).size<=sizeLine+1:=by
  rw[Array.size_append]
  exact h2
 wp_walk using (wpAny_updateSeq e1 rfl (_hz':=room)),wpAny_loadPart' e1,wpAny_loadPart' e2
 exact⟨_,rfl,fin⟩
theorem lw_add_list (l b:Addr)(xs ys:Array Value)(k m:Nat)(od oe:Option Addr)(sl sm:Array (Option Value))(h0:xs.size+ys.size<=sizeLine):
  Meets (Builtin.«list.__add__» ⟨[.ref l,.ref b],[]⟩) (λ_ R s=>s.heap.get? l=some (lwSeq "list" od xs k sl)/\s.heap.get? b=some (lwSeq "list" oe ys m sm)/\R (.ok (.ret (.ref s.heap.objs.size))) {s with heap:=s.heap.push {cls:=.type "list",data:=.seq (xs++ys)},toks:=s.toks}):=by
 refine .of_wp λprog w A R s hR=>?_
 obtain⟨e1,e2,fin⟩:=hR
 have i3:=sub_list_list
 wp_walk using wpAny_loadPart' e1,wpAny_loadPart' e2
 exact⟨_,rfl,fin⟩
end PySem
namespace L2
open PySem PySem.Spec PyProof.Rows
section
variable {X:Cx}{K:Frag}
def rExtendS (K:Frag):V->List V->Hp->VK->Prop:=λx vs H Q=>∃l b xs zs,x = .ref l/\vs=[.ref b]/\H l=some (.lst xs)/\(SqL K H b zs∨SqT K H b zs)/\xs.length+zs.length<=sizeLine/\Q .non (upd H l (.lst (xs++zs)))
theorem mt_extendS:MtM X "list.extend" (rExtendS X.K):=by
 intro pins s Y H x vs v us Q I rx rv h
 obtain⟨l,b,xs,zs,rfl,rfl,hH,hB,hz,q⟩:=h
 cases rx
 obtain⟨u,rfl,ru⟩:=rv.one
 cases ru
 obtain⟨z,its,n,r,hl,e⟩:=I.lstM hH
 have room:∀ys:List Value,ys.length=zs.length->its.toArray.size+ys.toArray.size<=sizeLine:=λys hy=>by rw[List.size_toArray,List.size_toArray];lia
 have fits:∀ys:List Value,ys.length=zs.length->¬ (!its.toArray.isEmpty && Builtin.List.listTooLong (its.toArray.size+ys.toArray.size))=true:=λys hy=>by
  rw[notLongL (room ys hy),Bool.and_false]
  exact Bool.false_ne_true
 have fin:∀ys:List Value,Vals zs ys->EP X pins Y Q .none {s with heap:=s.heap.update l (Obj.mapSeq (·++ys.toArray)),toks:=s.toks}:=λys ry=>
  ⟨.non,_,I.lset (its':=its++ys) hH e (by simp) (r.append ry) (by rw[List.length_append];omega),rfl,q⟩
 rcases hB with hB |hB
 .obtain ⟨ys,ry,⟨o,m,e2,o1,o2,o3⟩,_⟩:=I.list hB
  obtain⟨oc,od,oda,osl⟩:=o
  subst o1 o3
  have hy:=ry.length
  exact call_meets F.slot_list_extend ⟨_,e,rfl⟩ F.entry_list_extend (F.args_list_extend_2 _ _) (lw_extend_list l b its.toArray ys.toArray n m od osl (fits ys hy.symm) (by rw[List.size_toArray];lia) (by have:=room ys hy.symm;lia)) ⟨e,e2,fin ys ry⟩
 .obtain ⟨ys,ry,⟨o,e2,o1,m,o3⟩,_⟩:=I.tuple hB
  obtain⟨oc,od,oda,osl⟩:=o
  subst o1 o3
  have hy:=ry.length
  exact call_meets F.slot_list_extend ⟨_,e,rfl⟩ F.entry_list_extend (F.args_list_extend_2 _ _) (lw_extend_tuple l b its.toArray ys.toArray n m od osl (fits ys hy.symm) (by rw[List.size_toArray];lia) (by have:=room ys hy.symm;lia)) ⟨e,e2,fin ys ry⟩
def rCatS (K:Frag):R2:=λx y H Q=>∃l b xs zs,x = .ref l/\y = .ref b/\SqL K H l xs/\SqL K H b zs/\xs.length+zs.length<=sizeLine/\∀p H',H p=none->Same H H'->H' p=some (.lst (xs++zs))->Q (.ref p) H'
theorem op_catS:OpR X (binaryOp .Add) (rCatS X.K):=by
 intro pins s Y H x y v u Q I rx ry h
 obtain⟨l,b,xs,zs,rfl,rfl,hA,hB,hz,q⟩:=h
 cases rx
 cases ry
 obtain⟨its,r,⟨o,n,e,o1,o2,o3⟩,_⟩:=I.list hA
 obtain⟨its2,r2,⟨o',n2,e2,p1,p2,p3⟩,_⟩:=I.list hB
 obtain⟨oc,od,oda,osl⟩:=o
 obtain⟨pc,pd,pda,psl⟩:=o'
 subst o1 o3 p1 p3
 have l1:=r.length
 have l2:=r2.length
 refine PySem.concat_meets ⟨_,e,rfl⟩ ⟨_,e2,rfl⟩ PySem.noFill_list_add PySem.seq_list_add F.slot_list_add F.entry_list_add (F.args_list_add_2 _ _) (lw_add_list l b its.toArray its2.toArray n n2 od pd osl psl (by rw[List.size_toArray,List.size_toArray];lia)) ⟨e,e2,?_⟩
 have ea:its.toArray++its2.toArray=(its++its2).toArray:=by simp
 rw[ea]
 exact⟨.ref _,_,I.lnew (t':=s.toks) (r.append r2) (by rw[List.length_append];omega),rfl,q _ _ I.fresh (Same.new I.fresh) Xa0⟩
def dCatL (Ea Eb:DE):DO:=λδ P=>Ea δ λx=>Eb δ λy=>match x,y with
 | .lst xs,.lst ys=>xs.length+ys.length<=1000000/\P (.nl ((xs++ys).map .fz))
 |_,_=>False
def Itw (K:Frag)(a:Addr)(n:Nat):It:=
 ⟨λi H=>∃xs x,SqL K H a xs/\xs.length=n/\i<n/\xs[n-1-i]?=some x,λi H x H'=>H'=H/\∀xs,SqL K H a xs->xs[n-1-i]?=some x,λi _=>n<=i⟩
theorem turn_revL (a it:Addr)(n:Nat): Turn P w K tg (Itw K a n) [it] it (λi h=>i<=n/\h.IsRevIter it a ((n:Int)-1-(i:Nat))) where
 mem:=by simp
 obj:=λi h st b hb=>by
  have e:b=it:=by simpa using hb
  subst e
  obtain⟨_,o,ho,_,hd⟩:=st
  exact⟨o,ho,λv z=>by rw[hd]at z;cases z⟩
 keep:=λi h h' st k=>⟨st.1,st.2.at λo e=>k it (by simp) o e⟩
 item:=by
  kj_on
  obtain⟨xs,x,hq,hn,hi,hx⟩:=hg
  obtain⟨its,rv,p,hz⟩:=I.list hq
  obtain⟨u,hu,ru⟩:=rv.get hx
  obtain⟨f0,f1,f2,f3,f4,f5⟩:=hf it (by simp)
  have st0:s.heap.IsRevIter it a (((n-1-i:Nat)):Int):=by
   have e:(((n-1-i:Nat)):Int)=(n:Int)-1-(i:Nat):=by lia
   rw[e];exact st.2
  refine PySem.wpAny_pyNext_rev_item st0 p.isList (by simpa using hu) λh' st' sb=>?_
  have I1:Inv X pins Y H {s with heap:=h',toks:=s.toks}:=I.turned (t':=s.toks) (λb o hb e=>(sb.2 b hb).trans e) f0 f1 f3 f4 f5
  have st1:h'.IsRevIter it a ((n:Int)-1-((i+1:Nat):Int)):=by
   have e:(n:Int)-1-((i+1:Nat):Int)=(((n-1-i:Nat)):Int)-1:=by lia
   rw[e];exact st'
  obtain⟨o,ho,hc',hd'⟩:=id st1
  exact⟨u,rfl,go_of (s:={s with heap:=h',toks:=s.toks}) (n := "list_reverseiterator") ho hc' hd' rfl ⟨x,H,I1,ru,⟨rfl,λys hy=>by rw[I.list_inj hy hq];exact hx⟩,⟨by lia,st1⟩,λb hb=>(hf b hb).1⟩⟩
 done:=by
  intro X hP hw hK hc i pins s Y H E I hf st hg
  obtain⟨f0,f1,f2,f3,f4,f5⟩:=hf it (by simp)
  have st0:s.heap.IsRevIter it a (-1):=by
   have h2:n<=i:=hg
   have e:(-1:Int)=(n:Int)-1-(i:Nat):=by lia
   rw[e];exact st.2
  exact PySem.wpAny_pyNext_rev_end (I.ok.hd hc) st0 λh' eb=>⟨rfl,I.turned (t':=s.toks) (λb o hb e=>eb b o hb e) f0 f1 f3 f4 f5⟩
 self:=λ_ _ _ _ _ st h=>PySem.wpAny_pyIter_revIter st.2 h
def iRevL (K:Frag)(ta:TA):TI:=λY H R=>ta Y H λvs H1=>∃a xs,vs=[.ref a]/\SqL K H1 a xs/\R (Itw K a xs.length) H1
theorem pi_reversedL (hg:Gl X "reversed")(hm:X.mg "reversed"=none)(ha:PA X [l] ta)(hs:starEach [l] X.env=[(false,eval l X.env)]:=by rfl): PI X tg (.Call (.Name "reversed" p) [l] [] pos) (iRevL X.K ta):=by
 intro pins s Y H R I h
 refine Call_ (ld_blt I hg hm PyProof.Rows.boot_reversed (PyProof.Rows.callWith_type1 (thn (ha pos pins s Y H _ I h) λus s1 ⟨vs,H1,I1,r1,q1⟩=>?_) hs rfl))
 obtain⟨a,xs,e,hq,q⟩:=q1
 subst e
 obtain⟨u,rfl,ru⟩:=vals1 r1
 cases ru
 obtain⟨its,rv,pt,hz⟩:=I1.list hq
 have hl:=rv.length
 refine PySem.call_reversed_list pt.isList ?_
 have e0:(s1.heap.push (revObj a ((its.toArray.size:Int)-1))).IsRevIter s1.heap.objs.size a ((xs.length:Int)-1-((0:Nat):Int)):=by
  have e:(xs.length:Int)-1-((0:Nat):Int)=(its.toArray.size:Int)-1:=by rw[List.size_toArray];lia
  rw[e]
  exact⟨_,Heap.get?_push_size _ rfl,rfl,rfl⟩
 refine PySem.wpAny_pyIter_revIter e0 ?_
 refine⟨s1.heap.objs.size,[s1.heap.objs.size],_,_,H1,rfl,I1.kept (t':=s1.toks) λb o e=>Heap.get?_push_of_some _ e,turn_revL a _ xs.length,⟨Nat.zero_le _,e0⟩,λb hb=>?_,q⟩
 have e:b=s1.heap.objs.size:=by simpa using hb
 subst e
 exact I1.fpOk (Nat.le_refl _) (I1.hok.fresh (Nat.le_refl _))
def dRevL (As:DA):DA:=λδ P=>As δ λds=>match ds with
 | [.lst xs]=>P xs.reverse
 |_=>False
theorem sI_revL (h:SimAF K a As): SimI K (iRevL K a) (dRevL As):=λF0 H0 F H Y δ P R e w q=>h F0 H0 F H Y δ _ _ e w λds vs F' H' p x r=>by
 split at p
 .obtain ⟨v,rfl,a,us,rfl,h1,h2⟩:=reps1 r
  have hl:=h2.length
  refine⟨a,us,rfl,x.fh.seq h1,q _ _ F' H' p x λF1 H1 s1 s2=>?_⟩
  have hq:=(s1.trans s2).seq h1
  rw[List.length_reverse]
  refine⟨λi hi=>⟨us,us[us.length-1-i]'(by omega),hq,rfl,by lia,List.getElem?_eq_getElem (by omega)⟩,by show us.length<=_;lia,λi x H2 hi y=>?_⟩
  obtain⟨rfl,y⟩:=y
  obtain⟨d,hd,rd⟩:=h2.get' (y us hq)
  refine⟨d,F1,?_,Ext.refl s2,rd.mono s1⟩
  rw[List.getElem?_reverse hi,hl];exact hd
 .exact p.elim
theorem ER.frz {A:Nat->List Addr}(e:ER K F0 H0 F H Y δ A)(i:Nat)(hi:δ[i]?=some (some (.own t))): ∃F',EnvR K F0 H0 F' H Y (δ.set i (some (.own (.fz t.val)))):=by
 obtain⟨v,hv,hr⟩:=e.own i t hi
 have hlt:=(List.getElem?_eq_some_iff.mp hi).1
 have sm:Same F λa=>if a∈A i then H a else F a:=λb o z=>by
  have hb:b∉A i:=λy=>by rw[(e.new i b y).1]at z;cases z
  dsimp only
  rw[if_neg hb];exact z
 refine⟨λa=>if a∈A i then H a else F a,λj=>if j=i then [] else A j,by simp[e.len],⟨e.ext.ff.trans sm,e.ext.hh,λb o z=>?_,λb o z1 z2 z3=>?_⟩,λj u hj=>?_,λj d hj=>?_,λj=>?_,λj k a hjk h1 h2=>?_,λj a ha=>?_⟩
 .split at z
  .exact z
  .exact e.ext.fh _ _ z
 .have hb:b∉A i:=λy=>by rw[(e.new i b y).2.1]at z2;cases z2
  rw[if_neg hb];exact e.ext.no b o z1 z2 z3
 .by_cases z:j=i
  .subst z
   rw[if_pos rfl]
   rw[List.getElem?_set_self hlt]at hj
   cases hj
   exact⟨v,hv,rfl,hr.rep sm λa ha xs q=>by rw[if_pos ha];exact q⟩
  .rw [if_neg z]
   rw[List.getElem?_set_ne (Ne.symm z)]at hj
   obtain⟨v',h1,h2⟩:=e.own j u hj
   exact⟨v',h1,h2.frame sm λa _ xs q=>q⟩
 .by_cases z:j=i
  .subst z
   rw[List.getElem?_set_self hlt]at hj
   cases hj
  .rw [List.getElem?_set_ne (Ne.symm z)]at hj
   exact e.bw j d hj
 .split
  .exact List.nodup_nil
  .exact e.nod j
 .split at h1
  .cases h1
  .split at h2
   .cases h2
   .exact e.dis j k a hjk h1 h2
 .split at ha
  .cases ha
  .rename_i z
   obtain⟨h1,h2,h3⟩:=e.new j a ha
   refine⟨?_,h2,h3⟩
   rw[if_neg λy=>e.dis j i a z ha y];exact h1
def sFrz (i:Nat)(T:DS):DS:=λDe δ=>match δ[i]? with
 |some (some (.own t))=>T De (δ.set i (some (.own (.fz t.val))))
 |_=>False
theorem sS_frz (i:Nat)(h:SimS K t T): SimS K t (sFrz i T):=λF0 H0 F H Y δ De En ⟨A,e⟩ l w=>by
 unfold sFrz at w
 split at w
 .rename_i u hu
  obtain⟨F',e'⟩:=e.frz i hu
  exact h F0 H0 F' H Y _ De En e' l w
 .exact w.elim
def sApp2 (i:Nat)(Ei:DE)(E:DO):DS:=λDe δ=>match δ[i]? with
 |some (some (.own (.nl ts)))=>Ei δ λk=>match k with
  | .int k=>0<=k/\∃us,ts[k.toNat]?=some (.nl us)/\us.length<1000000/\E δ λr=>De.nx (δ.set i (some (.own (.nl (ts.set k.toNat (.nl (us++[r])))))))
  |_=>False
 |_=>False
theorem set_self_of {α:Type}{xs:List α}{i:Nat}{v:α}(h:xs[i]?=some v):xs.set i v=xs:=by
 obtain⟨hi,e⟩:=List.getElem?_eq_some_iff.mp h
 rw[<- e];exact List.set_getElem_self hi
theorem sS_app2 {i:Nat}{ti te:TE}{Ei:DE}{Eo:DO}(hi:SimB K ti Ei)(h:SimO K te Eo):SimS K (tDrop (tBM K "list" rAppend (tOp (rIxL K) (tVar i) ti) (tCons te tNil))) (sApp2 i Ei Eo):=λF0 H0 F H Y δ De En e l w=>by
 obtain⟨A,e⟩:=e
 unfold sApp2 at w
 split at w
 .rename_i ts hs
  obtain⟨v,hv,a,vs,B,rfl,eA,ha,hB⟩:=e.own i _ hs
  refine⟨_,hv,?_⟩
  refine hi F0 H0 F H Y δ _ _ ⟨A,e⟩ w λk kv F1 H1 p x1 r1=>?_
  split at p
  .rename_i k
   obtain⟨k0,us,hk,hus,p⟩:=p
   have e1:=e.on x1
   have ha1:=x1.hh _ _ ha
   have hB1:Xa5 K F1 H1 ts vs B:=hB.frame x1.ff λb _ xs z=>x1.hh _ _ z
   obtain⟨v0,A1,B0,A2,f1,rfl,f3,f4⟩:=hB1.focus hk
   obtain⟨c,ws,B1,rfl,rfl,hc,hws⟩:=f3
   have at1:atI vs k=some (.ref c):=by
    have:=atI_nat f1
    rwa[show ((k.toNat:Nat):Int)=k by lia]at this
   refine⟨a,vs,k,.ref c,rfl,r1,SqL.of ha1,at1,.inl ⟨rfl,_,SqL.of hc⟩,?_⟩
   refine h F0 H0 F1 H1 Y δ _ _ ⟨A,e1⟩ p λr u F2 H2 p2 x2 n=>?_
   obtain⟨C,c1,c2,c3⟩:=n
   have e2:=e1.on x2
   have hl:=hws.length
   refine⟨c,ws,u,rfl,rfl,x2.hh _ _ hc,sz_lt (by lia),?_⟩
   have hnd:=e.nod i
   rw[eA]at hnd
   have hA:A i=a::(A1++(c::B1++A2)):=eA
   obtain⟨n1,n2⟩:=List.nodup_cons.mp hnd
   obtain⟨m1,m2,m3⟩:=List.nodup_append.mp n2
   obtain⟨q1,q2,q3⟩:=List.nodup_append.mp m2
   obtain⟨s1,s2⟩:=List.nodup_cons.mp q1
   have hCA:∀j b,b∈C->b∉A j:=λj b hb z=>by
    obtain⟨_,_,xs,q,_⟩:=e1.new j b z
    rw[(c3 b hb).1]at q;cases q
   have hcA:c∈A i:=by rw[hA];simp
   have hac:a≠c:=λz=>n1 (by rw[z];simp)
   have hcC:c∉C:=λz=>hCA i c z hcA
   have off:∀b∈A1++A2,b≠c:=λb hb z=>by
    subst z
    rcases List.mem_append.mp hb with y |y
    .exact m3 b y b (by simp) rfl
    .exact q3 b (by simp) b y rfl
   have ina:∀b,b∈a::(A1++(c::(B1++C)++A2))->b∈A i∨b∈C:=λb hb=>by
    rw[hA]
    simp only[List.mem_cons,List.mem_append,List.cons_append]at hb ⊢
    rcases hb with z |z |z | (z |z) |z<;>simp[z]
   have f4':=f4 F2 (upd H2 c (.lst (ws++[u]))) (.nl (us++[r])) (.ref c) (c::(B1++C)) x2.ff (λb hb xs z=>Xax (off b hb) (x2.hh _ _ z))
    ⟨c,ws++[u],B1++C,rfl,rfl,Xa0,Xa5.append (hws.frame x2.ff λb hb xs z=>Xax (λy=>s1 (by rw[<- y];exact hb)) (x2.hh _ _ z)) (Xa5.one (c1.frame (Same.refl _) λb hb xs z=>Xax (λy=>hcC (by rw[<- y];exact hb)) z))⟩
   rw[set_self_of f1]at f4'
   refine l.nx F2 _ Y _ (e2.change i hv (t':=.nl (ts.set k.toNat (.nl (us++[r])))) (B:=a::(A1++(c::(B1++C)++A2))) ⟨a,vs,_,rfl,rfl,Xax hac (x2.hh _ _ ha1),f4'⟩ ?_ ?_ ?_ ?_) p2
   .have dC:∀x∈C,∀y∈A i,x≠y:=λx hx y hy z=>hCA i x hx (by rw[z];exact hy)
    rw[hA]at dC
    simp only[List.cons_append,List.nodup_cons,List.nodup_append,List.mem_cons,List.mem_append,not_or]at hnd n1 n2 m1 m2 m3 q1 q2 q3 s1 s2 ⊢
    refine⟨⟨n1.1,n1.2.1,⟨n1.2.2.1,λz=>dC a z a (by simp) rfl⟩,n1.2.2.2⟩,m1,⟨⟨⟨s1,hcC⟩,λz=>?_⟩,⟨s2,c2,λx hx y hy z=>dC y hy x (by simp[hx]) z.symm⟩,q2,λx hx y hy z=>?_⟩,λx hx y hy z=>?_⟩
    .exact q3 c (by simp) c z rfl
    .rcases hx with hx |hx
     .exact q3 x (by simp[hx]) y hy z
     .exact dC x hx y (by simp[hy]) z
    .rcases hy with hy | (hy |hy) |hy
     .exact m3 x hx y (by simp[hy]) z
     .exact m3 x hx y (by simp[hy]) z
     .exact dC y hy x (by simp[hx]) z.symm
     .exact m3 x hx y (by simp[hy]) z
   .intro b hb
    rcases ina b hb with z |z
    .exact ⟨(e2.new i b z).1,(e2.new i b z).2.1⟩
    .exact ⟨(c3 b z).2,e1.ext.hh.free (c3 b z).1⟩
   .intro j hj b hb z
    rcases ina b hb with y |y
    .exact e.dis j i b hj z y
    .exact hCA j b y z
   .intro b o hb q
    exact Xax (λz=>hb (by rw[z];exact hcA)) q
  .exact p.elim
 .exact w.elim
def sExt (i:Nat)(E:DE):DS:=λDe δ=>match δ[i]? with
 |some (some (.own (.nl ts)))=>E δ λd=>match d with
  | .lst ds=>ts.length+ds.length<=1000000/\De.nx (δ.set i (some (.own (.nl (ts++ds.map .fz)))))
  | .tup ds=>ts.length+ds.length<=1000000/\De.nx (δ.set i (some (.own (.nl (ts++ds.map .fz)))))
  |_=>False
 |_=>False
theorem sS_ext (h:SimF K te E): SimS K (tDrop (tBM K "list" (rExtendS K) (tVar i) (tCons te tNil))) (sExt i E):=λF0 H0 F H Y δ De En e l w=>by
 obtain⟨A,e⟩:=e
 unfold sExt at w
 split at w
 .rename_i ts hs
  obtain⟨v,hv,a,vs,B,rfl,eA,ha,hB⟩:=e.own i _ hs
  refine⟨_,hv,.inl ⟨rfl,_,SqL.of ha⟩,?_⟩
  refine h F0 H0 F H Y δ _ _ ⟨A,e⟩ w λd u F1 H1 p x1 r1=>?_
  have e1:=e.on x1
  have hl:=hB.length
  have hB1:Xa5 K F1 H1 ts vs B:=hB.frame x1.ff λb _ xs z=>x1.hh _ _ z
  have hnd:=e.nod i
  rw[eA]at hnd
  obtain⟨n1,n2⟩:=List.nodup_cons.mp hnd
  have fin:∀(ds:List D) (us:List V),Reps K F1 ds us->De.nx (δ.set i (some (.own (.nl (ts++ds.map .fz)))))->En.nx Y (upd H1 a (.lst (vs++us))):=λds us hu p=>by
   refine l.nx F1 _ Y _ (e1.change i hv (t':=.nl (ts++ds.map .fz)) (B:=a::(B++[])) ⟨a,vs++us,B++[],rfl,rfl,Xa0,?_⟩ ?_ ?_ ?_ ?_) p
   .exact Xa5.append (hB1.frame (Same.refl _) λb hb xs z=>Xax (λq=>n1 (by rw[<- q];exact hb)) z) (Xa5.fzs hu)
   .rw [List.append_nil];exact hnd
   .intro b hb
    rw[List.append_nil,<- eA]at hb
    exact⟨(e1.new i b hb).1,(e1.new i b hb).2.1⟩
   .intro j hj b hb z
    rw[List.append_nil,<- eA]at hb
    exact e.dis j i b hj z hb
   .intro b o hb q
    exact Xax (λz=>hb (by rw[eA,z];exact List.mem_cons_self)) q
  split at p
  .obtain ⟨c,us,rfl,q1,q2⟩:=r1
   have:=q2.length
   exact⟨a,c,vs,us,rfl,rfl,x1.hh _ _ ha,.inl (x1.fh.seq q1),sz_le (by lia),fin _ us q2 p.2⟩
  .obtain ⟨c,us,rfl,q1,q2⟩:=r1
   have:=q2.length
   exact⟨a,c,vs,us,rfl,rfl,x1.hh _ _ ha,.inr (x1.fh.seqT q1),sz_le (by lia),fin _ us q2 p.2⟩
  .exact p.elim
 .exact w.elim
end
mutual
def D.eqb:D->D->Bool
 | .int i,.int j=>decide (i=j)
 | .str x,.str y=>decide (x=y)
 | .non,.non=>true
 | .bl a,.bl b=>a==b
 | .bl a,.int j=>decide ((if a then 1 else 0)=j)
 | .int i,.bl b=>decide (i=if b then 1 else 0)
 | .tup xs,.tup ys=>D.eqbs xs ys
 | .lst xs,.lst ys=>D.eqbs xs ys
 |_,_=>false
def D.eqbs:List D->List D->Bool
 | [],[]=>true
 |x::xs,y::ys=>D.eqb x y && D.eqbs xs ys
 |_,_=>false
end
def allD:List D->(D->Prop)->Prop:=λds P=>match ds with
 | [.lst xs]=>∃bs:List Bool,xs=bs.map D.bl/\P (.bl (bs.all id))
 |_=>False
def maxLD:List D->(D->Prop)->Prop:=λds P=>match ds with
 | [.lst xs]=>∃ns:List Int,xs=ns.map D.int/\0<ns.length/\∀M:Int,M∈ns->(∀a∈ns,a<=M)->P (.int M)
 |_=>False
def dTruth (E:DE):DT:=λδ P=>E δ λd=>match d with
 | .bl b=>P b
 | .int i=>P (decide (i≠0))
 | .lst xs=>P (!xs.isEmpty)
 | .tup xs=>P (!xs.isEmpty)
 | .non=>P false
 |_=>False
def sPut2 (i:Nat)(Ek Em E:DE):DS:=λDe δ=>E δ λd=>match δ[i]? with
 |some (some (.own (.nl ts)))=>Ek δ λk=>match k with
  | .int k=>∃j us,ixN ts.length k=some j/\ts[j]?=some (.nl us)/\Em δ λm=>match m with
   | .int m=>∃l,ixN us.length m=some l/\De.nx (δ.set i (some (.own (.nl (ts.set j (.nl (us.set l (.fz d))))))))
   |_=>False
  |_=>False
 |_=>False
def stepG {α:Type}(xs:List α)(c:Int):List α:=(sliceRange 0 xs.length c).filterMap (xs[·]?)
def dSlSt (Ea Ec:DE):DO:=λδ P=>Ea δ λx=>Ec δ λc=>match x,c with
 | .lst xs,.int c=>0<c/\P (.nl ((stepG xs c).map .fz))
 |_,_=>False
section
variable {K:Frag}{X:Cx}
end
structure BltV (mg:Str->Option Value):Prop extends Blt mg where
 abs:mg "abs"=none
 any:mg "any"=none
 sum:mg "sum"=none
 sorted:mg "sorted"=none
 set:mg "set"=none
 enumerate:mg "enumerate"=none
 dict:mg "dict"=none
 str:mg "str"=none
 divmod:mg "divmod"=none
 ord:mg "ord"=none
abbrev DTb:=List (Str×DSp)
def dCallL (i n:Nat)(tb:DTb)(As:DA):DO:=λδ P=>match δ[i]? with
 |some (some (.own (.fz (.fn x))))=>∃sp,(x,sp)∈tb/\As δ λds=>ds.length=n/\sp ds P
 |_=>False
def dCallLB (i n:Nat)(tb:DTb)(As:DA):DO:=λδ P=>match δ[i]? with
 |some (some (.own (.fz (.fn x))))=>∃sp,(x,sp)∈tb/\As δ λds=>ds.length=n/\sp ds λr=>r.lf=true/\P r
 |_=>False
abbrev DIO:=List OV->List D->(List OV->Prop)->Prop
def sCallIO (i n:Nat)(sp:DIO)(As:DA):DS:=λDe δ=>match δ[i]? with
 |some (some (.own (.nl ts)))=>As δ λds=>ds.length+1=n/\sp ts ds λts'=>De.nx (δ.set i (some (.own (.nl ts'))))
 |_=>False
def startIO (N:List Str)(a:Addr)(ts:List OV)(ds:List D):Dst:=some (.own (.rt a ts))::(ds.map (λd=>some (.own (.fz d)))++List.replicate (N.length-(ds.length+1)) none)
def sTag (i:Nat)(T:DS):DS:=λDe δ=>match δ[i]? with
 |some (some (.own (.rt a ts)))=>T {De with nx:=λδ'=>match δ'[i]? with
   |some (some (.own (.nl ts')))=>De.nx (δ'.set i (some (.own (.rt a ts'))))
   |_=>False} (δ.set i (some (.own (.nl ts))))
 |_=>False
def gB (i:Nat):D->Dst->(Dst->Prop)->Prop:=λd δ P=>P (δ.set i (some (.bw d)))
def dCompB (El:DE)(ix:List (Option Nat))(Eo:DO):DO:=λδ P=>El δ λd=>match d with
 | .lst ds=>CmpW (gB 0) Eo ds (blkD ix δ) P
 |_=>False
section
variable {K:Frag}{X:Cx}{mg:Str->Option Value}
def NsOf (K:Frag)(mg:Str->Option Value)(x:Str):Prop:=∃f,PySem.W.nsIn K mainGlobals x=some (some (.ref f))/\mg x=some (.ref f)
def tFn (K:Frag)(x:Str):TE:=λY H Q=>∃f,PySem.W.nsIn K mainGlobals x=some (some (.ref f))/\Q (.ref f) H
theorem pe_fn (hg:Gl X x)(h:NsOf X.K X.mg x)(hd:(x==("__debug__":Str))=false:=by decide): PE X (.Name x pos) (tFn X.K x):=by
 intro pins s Y H Q I ⟨f,e,q⟩
 obtain⟨f',e1,e2⟩:=h
 rw[e]at e1
 cases e1
 exact pe_glob (v:=.ref f) hg e2 rfl hd pins s Y H Q I q
theorem sF_fn (h:NsOf K mg x): SimF K (tFn K x) (dC (.fn x)):=λF0 H0 F H Y δ P Q e w q=>by
 obtain⟨f,e1,_⟩:=h
 exact⟨f,e1,q _ _ F H w (Ext.refl e.ext.fh) ⟨f,rfl,e1⟩⟩
def tCallL (mg:Str->Option Value)(i:Nat)(tb:List (Str×Sp))(t:TA):TE:=λY H Q=>∃x sp f,(x,sp)∈tb/\mg x=some (.ref f)/\Y[i]?=some (some (.ref f))/\t Y H λvs H1=>sp vs H1 Q E0
theorem pe_calL (hn:PE X (.Name y p) (tVar i))(C:∀x sp,(x,sp)∈tb->∃ps,Cal X.prog X.w X.K X.mg X.base x k ps sp)(hr:Room k X.A)(ha:PA X (e::es) t)
  (he:starEach (e::es) X.env=(false,eval e X.env)::starEach es X.env:=by rfl) (hpl:(backTo pos (starEach es X.env)).any (·.1)=false:=by rfl):
  PE X (.Call (.Name y p) (e::es) [] pos) (tCallL X.mg i tb t):=by
 intro pins s Y H Q I ⟨x,sp,f,hm,hmg,hs,h⟩
 obtain⟨ps,⟨f',fd,F,hm',hk,hb⟩⟩:=C x sp hm
 rw[hmg]at hm'
 cases hm'
 refine wpAny_Call_Name_kw (thn (hn pins s Y H (λv H1=>v = .ref f/\H1=H) I ⟨_,hs,rfl,rfl⟩) λu s1 ⟨v,H1,I1,r1,e1,e2⟩=>?_)
 subst e1 e2
 cases r1
 refine PySem.W.callWith_K I1.ok.mod.kin hk (thn (ha pos pins s1 Y H1 _ I1 h) λus s2 ⟨vs,H2,I2,r,q⟩=>⟨I2.kIn,?_⟩) he hpl
 exact run_fn F hr hb .nil pass0 I2 r (by rw[List.append_nil];exact q)
theorem Cal.mono (C:Cal P w K mg base x j ps sp)(h:j<=k): Cal P w K mg base x k ps sp:=by
 obtain⟨f,fd,F,a,b,c⟩:=C.ex
 exact⟨f,fd,F.mono h,a,b,c⟩
def tbV (K:Frag)(n:Nat)(tb:DTb):List (Str×Sp):=tb.map λp=>(p.1,spV K n p.2)
theorem tbV_all (h:∀p∈tb,∃ps,Cal P w K mg base p.1 k ps (spV K n p.2)): ∀x sp,(x,sp)∈tbV K n tb->∃ps,Cal P w K mg base x k ps sp:=λx sp hm=>by
 obtain⟨p,hp,e⟩:=List.mem_map.mp hm
 cases e
 exact h p hp
theorem sO_callL (hN:∀p∈tb,NsOf K mg p.1)(ha:SimAF K a As): SimO K (tCallL mg i (tbV K n tb) a) (dCallL i n tb As):=λF0 H0 F H Y δ P Q e w q=>by
 unfold dCallL at w
 split at w
 .rename_i x hx
  obtain⟨A,e⟩:=e
  obtain⟨v,hv,_,f,rfl,hf⟩:=e.own i _ hx
  obtain⟨sp,hm,w⟩:=w
  obtain⟨f',n1,n2⟩:=hN _ hm
  rw[hf]at n1
  cases n1
  refine⟨x,spV K n sp,f,List.mem_map.mpr ⟨_,hm,rfl⟩,n2,hv,?_⟩
  refine ha F0 H0 F H Y δ _ _ ⟨A,e⟩ w λds vs F1 H1 w1 x1 r1=>?_
  exact⟨by rw[<- r1.length];exact w1.1,F1,ds,P,x1.fh,r1,w1.2,λr v F' H' p x' r'=>q r v F' H' p (x1.trans x') (r'.old x1.hh)⟩
 .exact w.elim
theorem sO_callLB (hN:∀p∈tb,NsOf K mg p.1)(ha:SimAB K a As): SimO K (tCallL mg i (tbV K n tb) a) (dCallLB i n tb As):=λF0 H0 F H Y δ P Q e w q=>by
 unfold dCallLB at w
 split at w
 .rename_i x hx
  obtain⟨A,e⟩:=e
  obtain⟨v,hv,_,f,rfl,hf⟩:=e.own i _ hx
  obtain⟨sp,hm,w⟩:=w
  obtain⟨f',n1,n2⟩:=hN _ hm
  rw[hf]at n1
  cases n1
  refine⟨x,spV K n sp,f,List.mem_map.mpr ⟨_,hm,rfl⟩,n2,hv,?_⟩
  refine ha F0 H0 F H Y δ _ _ ⟨A,e⟩ w λds vs F1 H1 w1 x1 r1=>?_
  refine⟨by rw[<- r1.length];exact w1.1,H1,ds,_,Same.refl _,r1,w1.2,λr v F' H' p x' r'=>?_⟩
  have s1:Same F1 F':=x1.fh.trans x'.ff
  have x2:=frzT_ext s1
  obtain⟨A,a1,a2,a3⟩:=r'
  refine q r v (frzT F1 F') H' p.2 (x1.trans ⟨x2.ff,x'.hh,x2.fh.trans x'.fh,λb o z1 z2 z3=>?_⟩) ⟨A,a1.lf s1 p.1,a2,λb hb=>⟨x1.hh.free (a3 b hb).1,x2.fh.free (a3 b hb).2⟩⟩
  exact x2.no b o z1 (x'.ff _ _ z2) z3
 .exact w.elim
def spIO (K:Frag)(n:Nat)(sp:DIO):Sp:=spL n λvs H Q=>∃F a ts vs0 B rest ds P,vs=V.ref a::rest/\Same F H/\H a=some (.lst vs0)/\Xa5 K F H ts vs0 B/\(a::B).Nodup/\(∀b∈a::B,F b=none)/\Reps K F ds rest/\sp ts ds P/\
 ∀ts' F' H' vs' B',P ts'->Same F F'->Same F' H'->(∀b o,b∉a::B->H b=some o->H' b=some o)->(∀b o,F b=none->H b=some o->imm o=false->b∉a::B->F' b=none)->H' a=some (.lst vs')->Xa5 K F' H' ts' vs' B'->(a::B').Nodup->
  (∀b∈a::B',F' b=none/\(b∈a::B∨H b=none))->Q .non H'
theorem sS_callIO (ha:SimAF K a As): SimS K (tDrop (tCall (spIO K n sp) [] E0 (tCons (tVar i) a))) (sCallIO i n sp As):=λF0 H0 F H Y δ De En e l w=>by
 obtain⟨A,e⟩:=e
 unfold sCallIO at w
 split at w
 .rename_i ts hs
  obtain⟨v,hv,p,vs,B,rfl,eA,hp,hB⟩:=e.own i _ hs
  refine⟨_,hv,?_⟩
  refine ha F0 H0 F H Y δ _ _ ⟨A,e⟩ w λds us F1 H1 w1 x1 r1=>?_
  show spIO K n sp ((V.ref p::us)++[]) H1 (λ_ H2=>En.nx Y H2) E0
  rw[List.append_nil]
  have e1:=e.on x1
  have hnd:=e.nod i
  rw[eA]at hnd
  have hlt:i<δ.length:=(List.getElem?_eq_some_iff.mp hs).1
  refine⟨by rw[List.length_cons,<- r1.length];exact w1.1,F1,p,ts,vs,B,us,ds,_,rfl,x1.fh,x1.hh _ _ hp,hB.frame x1.ff λb _ xs z=>x1.hh _ _ z,hnd,λb hb=>(e1.new i b (by rw[eA];exact hb)).1,r1,w1.2,?_⟩
  intro ts' F' H' vs' B' pt sF sH keep nofz hp' hB' nd' nw'
  refine l.nx F' H' Y _ ⟨λj=>if j=i then p::B' else A j,?_⟩ pt
  refine⟨by simp[e.len],⟨e1.ext.ff.trans sF,λb o h=>?_,sH,λb o h1 h2 h3=>?_⟩,λj t hj=>?_,λj d hj=>?_,λj=>?_,λj k b hjk h1 h2=>?_,λj b hb=>?_⟩
  .exact keep b o (λz=>by rw[(e1.new i b (by rw[eA];exact z)).2.1]at h;cases h) (e1.ext.hh _ _ h)
  .exact nofz b o (e1.ext.no b o h1 h2 h3) (e1.ext.hh _ _ h2) h3 (λz=>by rw[(e1.new i b (by rw[eA];exact z)).2.1]at h2;cases h2)
  .by_cases z:j=i
   .subst z
    rw[if_pos rfl]
    rw[List.getElem?_set_self hlt]at hj
    cases hj
    exact⟨_,hv,p,vs',B',rfl,rfl,hp',hB'⟩
   .rw [if_neg z]
    rw[List.getElem?_set_ne (Ne.symm z)]at hj
    obtain⟨u,h1,h2⟩:=e1.own j t hj
    exact⟨u,h1,h2.frame sF λb hb xs q=>keep b _ (λy=>e.dis j i b z hb (by rw[eA];exact y)) q⟩
  .by_cases z:j=i
   .subst z
    rw[List.getElem?_set_self hlt]at hj
    cases hj
   .rw [List.getElem?_set_ne (Ne.symm z)]at hj
    exact e1.bw j d hj
  .split
   .exact nd'
   .exact e.nod j
  .have key:∀k,k≠i->b∈p::B'->b∈A k->False:=λk hk z1 z2=>by
    rcases (nw' b z1).2 with y |y
    .exact e.dis k i b hk z2 (by rw[eA];exact y)
    .obtain ⟨_,_,xs,q,_⟩:=e1.new k b z2
     rw[y]at q;cases q
   split at h1
   .split at h2
    .lia
    .rename_i z1 z2
     exact key k z2 h1 h2
   .split at h2
    .rename_i z1 z2
     exact key j z1 h2 h1
    .exact e.dis j k b hjk h1 h2
  .split at hb
   .have hh:H0 b=none:=by
     rcases (nw' b hb).2 with y |y
     .exact (e1.new i b (by rw[eA];exact y)).2.1
     .exact e1.ext.hh.free y
    refine⟨(nw' b hb).1,hh,?_⟩
    rcases List.mem_cons.mp hb with y |y
    .rw [y];exact⟨_,hp',rfl⟩
    .exact hB'.isl b y
   .rename_i z
    obtain⟨h1,h2,xs,h3,himm⟩:=e1.new j b hb
    have hni:b∉p::B:=λy=>e.dis j i b z hb (by rw[eA];exact y)
    exact⟨nofz b _ h1 h3 himm hni,h2,xs,keep b _ hni h3,himm⟩
 .exact w.elim
theorem CalIO.of {P:Program}{w:World}{base:Heap}{x:Str}{st:Stmt}{f:Addr}{fd:FuncData}{N ps:List Str}{k n:Nat}{sp:DIO}(Df:DefAt K mg x st f fd)(S:FnScope N ps (Xac st))
  (hb:∀(kV doc pm:Value) (an:Option Addr) (cdv ct:Value) (us:List Value),us.length=ps.length->bindArgs (PySem.W.fnOf x x (defArgs st) (Xa4 st) (Xac st) .none kV doc pm an cdv ct) ⟨us,[]⟩=pure (ps.zip us)) (hn:n=ps.length)
  (hbody:∀(cdv:Value) (A:Around) (outer:List Env) (s:Shared) (H:Hp) (E:XK),Room k (A.deeper (envOfC x (Xac st) s.heap.objs.size f cdv))->
   ∃t T,PSs (cxOf CX0 P w K mg base N x (Xac st) f cdv A outer s H E).nox (Xa4 st) t/\SimS K t T/\∀(a:Addr) ts ds Pr,sp ts ds Pr->T {nx:=λδ=>∃ts',δ[0]?=some (some (.own (.rt a ts')))/\Pr ts',rt:=λ_=>False} (startIO N a ts ds)):Cal P w K mg base x (k+1) ps (spIO K n sp):=
 Cal.of Df S hb (λvs H Q E h=>by rw[<- hn];exact h.1) λcdv A outer s H vs Q E hr h=>by
  obtain⟨_,F,a,ts,vs0,B,rest,ds,Pr,rfl,hs,ha,hB,hnd,hnf,hr',hsp,hq⟩:=h
  obtain⟨t,T,h1,h2,h3⟩:=hbody cdv A outer s H E hr
  have hl:=hr'.length
  have er : ER K F (λb=>if b∈a::B then none else H b) F H (start N (V.ref a::rest)) (startIO N a ts ds) (λj=>if j=0 then a::B else []):=by
   refine⟨by simp[start,startIO,hl],⟨Same.refl _,λb o z=>?_,hs,λ_ _ z _ _=>z⟩,λi t hi=>?_,λi d hi=>?_,λj=>?_,λj k b hjk y1 y2=>?_,λj b hb=>?_⟩
   .split at z
    .cases z
    .exact z
   .unfold startIO at hi
    cases i with
    |zero=>
     simp at hi
     subst hi
     exact⟨.ref a,rfl,vs0,B,rfl,rfl,ha,hB⟩
    |succ i=>
     rw[List.getElem?_cons_succ]at hi
     by_cases z:i<ds.length
     .rw [List.getElem?_append_left (by simpa using z),List.getElem?_map,List.getElem?_eq_getElem z]at hi
      simp at hi
      subst hi
      obtain⟨v,g1,g2⟩:=hr'.get (List.getElem?_eq_getElem z)
      refine⟨v,?_,rfl,g2⟩
      unfold start
      rw[List.map_cons,List.cons_append,List.getElem?_cons_succ,List.getElem?_append_left (by simp;lia),List.getElem?_map,g1]
      rfl
     .rw [List.getElem?_append_right (by simpa using z)]at hi
      have:=List.mem_of_getElem? hi
      rw[List.mem_replicate]at this
      cases this.2
   .unfold startIO at hi
    cases i with
    |zero=>simp at hi
    |succ i=>
     rw[List.getElem?_cons_succ]at hi
     by_cases z:i<ds.length
     .rw [List.getElem?_append_left (by simpa using z),List.getElem?_map]at hi
      simp at hi
     .rw [List.getElem?_append_right (by simpa using z)]at hi
      have:=List.mem_of_getElem? hi
      rw[List.mem_replicate]at this
      cases this.2
   .split
    .exact hnd
    .exact List.nodup_nil
   .split at y1
    .split at y2
     .lia
     .cases y2
    .cases y1
   .split at hb
    .refine ⟨hnf b hb,if_pos hb,?_⟩
     rcases List.mem_cons.mp hb with y |y
     .rw [y];exact⟨_,ha,rfl⟩
     .exact hB.isl b y
    .cases hb
  refine⟨t,h1,h2 F _ F H (start N (V.ref a::rest)) (startIO N a ts ds) {nx:=λδ=>∃ts',δ[0]?=some (some (.own (.rt a ts')))/\Pr ts',rt:=λ_=>False} _ ⟨_,er⟩ ⟨λF' H' Y δ e p=>?_,λ_ _ _ _ _ z=>z.elim,λ_ _ _ _ _ z=>z.elim,λ_ _ _ _ _ _ z=>z.elim⟩ (h3 a ts ds Pr hsp)⟩
  obtain⟨A',e⟩:=e
  obtain⟨ts',h0,hp⟩:=p
  obtain⟨v,hv,vs',B',rfl,eA,g1,g2⟩:=e.own 0 _ h0
  have hn':=e.nod 0
  rw[eA]at hn'
  refine hq ts' F' H' vs' B' hp e.ext.ff e.ext.fh (λb o y z=>?_) (λb o y1 y2 y3 y4=>?_) g1 g2 hn' (λb hb=>?_)
  .exact e.ext.hh b o (by rw[if_neg y];exact z)
  .exact e.ext.no b o y1 (by rw[if_neg y4];exact y2) y3
  .obtain ⟨z1,z2,_⟩:=e.new 0 b (by rw[eA];exact hb)
   refine⟨z1,?_⟩
   by_cases q:b∈a::B
   .exact .inl q
   .rw [if_neg q]at z2;exact .inr z2
def LocS (t:TS):Prop:=∀E Y H,t {E with nx:=λY' H'=>Y'=Y->E.nx Y' H'} Y H->t E Y H
theorem nx_loc {E:Ends}{Y:St}:(λH'=>Y=Y->E.nx Y H')=E.nx Y:=funext λH'=>propext ⟨λz=>z rfl,λz _=>z⟩
theorem loc_put {te to ti:TE}{r:TSet}:LocS (tAsg te (gSub to ti r)):=λE Y H h=>by
 have h':te Y H λx H1=>to Y H1 λo H2=>ti Y H2 λi H3=>r o i x H3 (λH'=>Y=Y->E.nx Y H'):=h
 rw[nx_loc]at h'
 exact h'
theorem EnvR.untag (e:EnvR K F0 H0 F H Y δ)(h:δ[i]?=some (some (.own (.rt a ts)))): Y[i]?=some (some (.ref a))/\EnvR K F0 H0 F H Y (δ.set i (some (.own (.nl ts)))):=by
 obtain⟨A,e⟩:=e
 obtain⟨v,hv,vs,B,rfl,eA,h1,h2⟩:=e.own i _ h
 have hlt:i<δ.length:=(List.getElem?_eq_some_iff.mp h).1
 refine⟨hv,A,by simp[e.len],e.ext,λj t hj=>?_,λj d hj=>?_,e.nod,e.dis,e.new⟩
 .by_cases z:j=i
  .subst z
   rw[List.getElem?_set_self hlt]at hj
   cases hj
   exact⟨_,hv,a,vs,B,rfl,eA,h1,h2⟩
  .rw [List.getElem?_set_ne (Ne.symm z)]at hj
   exact e.own j t hj
 .by_cases z:j=i
  .subst z
   rw[List.getElem?_set_self hlt]at hj
   cases hj
  .rw [List.getElem?_set_ne (Ne.symm z)]at hj
   exact e.bw j d hj
theorem EnvR.retag (e:EnvR K F0 H0 F H Y δ)(h:δ[i]?=some (some (.own (.nl ts))))(hσ:Y[i]?=some (some (.ref a))): EnvR K F0 H0 F H Y (δ.set i (some (.own (.rt a ts)))):=by
 obtain⟨A,e⟩:=e
 obtain⟨v,hv,a',vs,B,rfl,eA,h1,h2⟩:=e.own i _ h
 rw[hσ]at hv
 cases hv
 have hlt:i<δ.length:=(List.getElem?_eq_some_iff.mp h).1
 refine⟨A,by simp[e.len],e.ext,λj t hj=>?_,λj d hj=>?_,e.nod,e.dis,e.new⟩
 .by_cases z:j=i
  .subst z
   rw[List.getElem?_set_self hlt]at hj
   cases hj
   exact⟨_,hσ,vs,B,rfl,eA,h1,h2⟩
  .rw [List.getElem?_set_ne (Ne.symm z)]at hj
   exact e.own j t hj
 .by_cases z:j=i
  .subst z
   rw[List.getElem?_set_self hlt]at hj
   cases hj
  .rw [List.getElem?_set_ne (Ne.symm z)]at hj
   exact e.bw j d hj
theorem sS_tag (hl:LocS t)(h:SimS K t T): SimS K t (sTag i T):=λF0 H0 F H Y δ De E e l w=>by
 unfold sTag at w
 split at w
 .rename_i a ts hs
  obtain⟨hσ,e'⟩:=e.untag hs
  have lk:Lk K F0 H0 {De with nx:=λδ'=>match δ'[i]? with |some (some (.own (.nl ts')))=>De.nx (δ'.set i (some (.own (.rt a ts')))) |_=>False} {E with nx:=λY' H'=>Y'=Y->E.nx Y' H'}:=by
   refine⟨λF1 H1 Y1 δ1 e1 p hq=>?_,l.bk,l.ct,l.rt⟩
   subst hq
   dsimp only at p
   split at p
   .rename_i ts' hs'
    exact l.nx F1 H1 _ _ (e1.retag hs' hσ) p
   .exact p.elim
  exact hl E Y H (h F0 H0 F H Y _ _ _ e' lk w)
 .exact w.elim
end
section
variable {K:Frag}{X:Cx}
theorem ER.putBw {A:Nat->List Addr}(e:ER K F0 H0 F H Y δ A)(i:Nat)(h:Rep K H0 d v): ER K F0 H0 F H (Y.set i (some v)) (δ.set i (some (.bw d))) A:=by
 refine⟨by simp[e.len],e.ext,λj t hj=>?_,λj d' hj=>?_,e.nod,e.dis,e.new⟩
 .by_cases z:j=i
  .subst z
   have hl0:j<δ.length:=by
    have:=(List.getElem?_eq_some_iff.mp hj).1
    rwa[List.length_set]at this
   rw[List.getElem?_set_self hl0]at hj
   cases hj
  .rw [List.getElem?_set_ne (Ne.symm z)]at hj ⊢
   exact e.own j t hj
 .by_cases z:j=i
  .subst z
   have hl0:j<δ.length:=by
    have:=(List.getElem?_eq_some_iff.mp hj).1
    rwa[List.length_set]at this
   rw[List.getElem?_set_self hl0]at hj
   cases hj
   exact⟨v,List.getElem?_set_self (by rw[e.len];exact hl0),h⟩
  .rw [List.getElem?_set_ne (Ne.symm z)]at hj ⊢
   exact e.bw j d' hj
theorem sO_compB (hl:SimB K tl El)(he:SimO K te Eo): SimO K (tComp (iList K tl) ix (gName 0) te) (dCompB El ix Eo):=λF0 H0 F H Y δ P Q e w q=>
 hl F0 H0 F H Y δ _ _ e w λd v F1 H1 p x1 r1=>by
  split at p
  case h_2=>exact p.elim
  rename_i ds
  obtain⟨aL,vsL,rfl,hq1,hq2⟩:=r1
  have hql:=hq2.length
  refine⟨aL,rfl,⟨vsL,hq1⟩,?_⟩
  intro L hL
  obtain⟨A,e⟩:=e.on x1
  obtain⟨W,w0,ws,wd⟩:=p
  have f1:Same F1 H1:=x1.fh
  refine⟨λi m Y ys H=>m=ds.length-i/\i<=ds.length/\∃F δ ts B,ER K F1 H1 F H Y δ (λ_=>[])/\W i δ ts/\F L=none/\H L=some (.lst ys)/\Xa5 K F H ts ys B/\(L::B).Nodup/\∀b∈B,H1 b=none/\F b=none,
   ⟨ds.length,rfl,Nat.zero_le _,F1,_,[],[],e.blk ix (Same.new hL),w0,f1.free hL,Xa0,⟨rfl,rfl⟩,by simp,λ_ h=>by cases h⟩,?_⟩
  rintro i m Y2 ys H2 ⟨rfl,hil,F2,δ2,ts,B,e2,w2,l1,l2,hr,nd,nw⟩
  have hqn:=e2.ext.hh.seq hq1
  by_cases hlt:i<ds.length
  .obtain ⟨d0,hd0⟩:∃d,ds[i]?=some d:=⟨_,List.getElem?_eq_getElem hlt⟩
   have hl:=hr.length
   refine .inr ⟨sz_lt (by have:=(ws i d0 δ2 ts hd0 w2).1;lia),⟨vsL,vsL[i]'(by lia),hqn,List.getElem?_eq_getElem (by lia)⟩,λx H3 y=>?_⟩
   obtain⟨rfl,y⟩:=y
   obtain⟨d,hd,r3⟩:=hq2.get' (y vsL hqn)
   have x3:=Ext.refl e2.ext.fh
   have w4:=(ws i d δ2 ts hd w2).2
   have e4':=e2.putBw 0 r3
   refine he F1 H1 F2 _ _ _ _ _ ⟨_,e4'⟩ w4 λr v F5 H5 p5 x5 n5=>?_
   have x25:=x3.trans x5
   have l5:=x25.hh _ _ l2
   have l5f:=x25.no L _ l1 l2 rfl
   refine⟨l5,ds.length-(i+1),by lia,rfl,hlt,F5,δ2.set 0 (some (.bw d)),ts++[r],?_⟩
   obtain⟨C,c1,c2,c3⟩:=n5
   obtain⟨n1,n2⟩:=List.nodup_cons.mp nd
   have hLC:L∉C:=λz=>by
    have q:=(c3 L z).1
    rw[x3.hh _ _ l2]at q;cases q
   have hBC:∀b,b∈B->b∉C:=λb hb z=>by
    obtain⟨xs,q,himm⟩:=hr.isl b hb
    have:=(c3 b z).1
    rw[x3.hh _ _ q]at this;cases this
   have e5:=e4'.on x5
   refine⟨B++C,⟨e5.len,⟨e5.ext.ff,λb o h=>?_,λb o h=>?_,e5.ext.no⟩,λj t hj=>?_,e5.bw,e5.nod,e5.dis,λ_ _ h=>by cases h⟩,p5,l5f,Xa0,?_,?_,λb hb=>?_⟩
   .exact Xax (λz=>by rw[z,hL]at h;cases h) (e5.ext.hh _ _ h)
   .exact Xax (λz=>by rw[z,l5f]at h;cases h) (e5.ext.fh _ _ h)
   .obtain ⟨u,h1,h2⟩:=e5.own j t hj
    exact⟨u,h1,h2.frame (Same.refl _) λ_ z=>by cases z⟩
   .exact Xa5.append (hr.frame x25.ff λb hb xs z=>Xax (λq=>n1 (by rw[<- q];exact hb)) (x25.hh _ _ z)) (Xa5.one (c1.frame (Same.refl _) λb hb xs z=>Xax (λq=>hLC (by rw[<- q];exact hb)) z))
   .refine List.nodup_cons.mpr ⟨λz=>?_,List.nodup_append.mpr ⟨n2,c2,λx hx y hy z=>by subst z;exact hBC x hx hy⟩⟩
    rcases List.mem_append.mp z with z |z
    .exact n1 z
    .exact hLC z
   .rcases List.mem_append.mp hb with z |z
    .obtain ⟨xs,qq,himm⟩:=hr.isl b z
     exact⟨(nw b z).1,x25.no b _ (nw b z).2 qq himm⟩
    .exact ⟨(e2.ext.hh.trans x3.hh).free (c3 b z).1,(c3 b z).2⟩
  .have hi':i=ds.length:=by lia
   subst hi'
   refine .inl ⟨⟨vsL,hqn,by lia⟩,q _ _ F2 H2 (wd _ _ w2) (x1.trans e2.ext) ⟨L::B,⟨L,ys,B,rfl,rfl,l2,hr⟩,nd,λb hb=>?_⟩⟩
   rcases List.mem_cons.mp hb with rfl |z
   .exact ⟨x1.hh.free hL,l1⟩
   .exact ⟨x1.hh.free (nw b z).1,(nw b z).2⟩
def rAllB (K:Frag):List V->Hp->VK->Prop:=λxs H Q=>∃(l:Addr) (bs:List Bool),xs=[.ref l]/\SqL K H l (bs.map V.bl)/\Q (.bl (bs.all id)) H
theorem bools_get:∀{bs:List Bool} {us:List Value},Vals (bs.map V.bl) us->∀{i:Nat} {v:Value},us[i]?=some v->∃b,bs[i]?=some b/\v = .bool b
 | [],_,.nil,i,v,e=>by simp at e
 |b::bs,u::us,.cons r t,0,v,e=>by
  simp at e
  subst e
  exact⟨b,rfl,r⟩
 |b::bs,u::us,.cons r t,i+1,v,e=>by
  obtain⟨b',h1,h2⟩:=bools_get t e
  exact⟨b',h1,h2⟩
theorem call_allB (hc:X.calm=true): CallR X (.builtin "all") (rAllB X.K):=by
 intro pins s Y H xs us Q I r h
 obtain⟨l,bs,rfl,hq,q⟩:=h
 obtain⟨u,rfl,ru⟩:=vals1 r
 cases ru
 obtain⟨its,rv,pl,hz⟩:=I.list hq
 have hl:=pl.isList
 have hn:=rv.length
 rw[List.length_map]at hn
 have hlt:l<s.heap.objs.size:=by obtain⟨_,e,_⟩:=hl;exact Heap.lt_size e
 refine call_all_walk (wpAny_pyIter_list hl ?_)
 refine⟨s.heap.objs.size,[s.heap.objs.size,l],[s.heap.objs.size],its.toArray.size,_,_,λi=>(bs[i]?).getD true,rfl,Walks.list (A:=X.A.in1) (I.ok.hd hc) _ l (Nat.ne_of_lt hlt) its.toArray,
  ⟨⟨_,Heap.get?_push_size _ rfl,rfl,rfl⟩,hl.push _⟩,λi v s' Q' E' hP hQ=>?_,λh' tk hk=>?_⟩
 .obtain ⟨b,e,rfl⟩:=bools_get rv (by simpa using hP)
  simp only[e]at hQ
  exact wpAny_truthy_bool hQ
 .have e:((List.range its.toArray.size).all λi=>(bs[i]?).getD true)=bs.all id:=by
   rw[List.size_toArray,<- hn];exact LSm.range_all bs
  rw[e]
  exact⟨.bl _,H,I.kept (t':=tk) (LSm.kept_iter hk),rfl,q⟩
theorem reps_bools:∀{bs:List Bool} {vs:List V},Reps K F (bs.map D.bl) vs->vs=bs.map V.bl
 | [],vs,h=>h
 |b::bs,vs,h=>by
  obtain⟨v,r,rfl,h1,h2⟩:=h
  rw[show v=V.bl b from h1,reps_bools h2];rfl
theorem cS_all:CbS K (rAllB K) allD:=λF H ds vs P Q s rs w q=>by
 unfold allD at w
 split at w
 .obtain ⟨bs,rfl,w⟩:=w
  obtain⟨v,rfl,p,us,rfl,h1,h2⟩:=reps1 rs
  have e:=reps_bools h2
  subst e
  exact⟨p,bs,rfl,h1,q _ _ F H w (Ext.refl s) rfl⟩
 .exact w.elim
theorem ixN_lt (h:ixN n k=some j): j<n:=by
 unfold ixN at h
 split at h
 .split at h
  .cases h;lia
  .cases h
 .split at h
  .cases h;lia
  .cases h
theorem sS_put2 (h:SimF K te E)(hk:SimB K tk Ek)(hm:SimB K tm Em): SimS K (tAsg te (gSub (tOp (rIxL K) (tVar i) tk) tm rSetL)) (sPut2 i Ek Em E):=λF0 H0 F H Y δ De En e l w=>by
 refine h F0 H0 F H Y δ _ _ e w λd u F1 H1 p x1 rd=>?_
 obtain⟨A,e⟩:=e
 split at p
 .rename_i ts hs
  have e1:=e.on x1
  obtain⟨v,hv,a,vs,B,rfl,eA,ha,hB⟩:=e1.own i _ hs
  refine⟨_,hv,?_⟩
  refine hk F0 H0 F1 H1 Y δ _ _ ⟨A,e1⟩ p λk kv F2 H2 p2 x2 r2=>?_
  split at p2
  .rename_i k
   obtain⟨j,us,hj,hu,p2⟩:=p2
   have e2:=e1.on x2
   have ha2:=x2.hh _ _ ha
   have hB2:Xa5 K F2 H2 ts vs B:=hB.frame x2.ff λb _ xs z=>x2.hh _ _ z
   have hlv:=hB2.length
   obtain⟨v0,A1,B0,A2,f1,rfl,f3,f4⟩:=hB2.focus hu
   obtain⟨c,ws,C0,rfl,rfl,hc,hws⟩:=f3
   have at1:atI vs k=some (.ref c):=by
    unfold atI
    rw[<- hlv,hj];exact f1
   refine⟨a,vs,k,.ref c,rfl,r2,SqL.of ha2,at1,?_⟩
   refine hm F0 H0 F2 H2 Y δ _ _ ⟨A,e2⟩ p2 λm mv F3 H3 p3 x3 r3=>?_
   split at p3
   .rename_i m
    obtain⟨q,hq,p3⟩:=p3
    have e3:=e2.on x3
    have hlw:=hws.length
    refine⟨c,ws,m,q,rfl,r3,x3.hh _ _ hc,by rw[<- hlw];exact hq,?_⟩
    have hql:=ixN_lt hq
    have hws3:Xa5 K F3 H3 us ws C0:=hws.frame x3.ff λb _ xs z=>x3.hh _ _ z
    obtain⟨w0,C1,D0,C2,g1,rfl,g3,g4⟩:=hws3.focus (List.getElem?_eq_getElem hql)
    have hnd:=e.nod i
    rw[eA]at hnd
    have hA:A i=a::(A1++(c::(C1++(D0++C2))++A2)):=eA
    obtain⟨n1,n2⟩:=List.nodup_cons.mp hnd
    obtain⟨m1,m2,m3⟩:=List.nodup_append.mp n2
    obtain⟨q1,q2,q3⟩:=List.nodup_append.mp m2
    obtain⟨s1,s2⟩:=List.nodup_cons.mp q1
    have hac:a≠c:=λz=>n1 (by rw[z];simp)
    have off:∀b∈A1++A2,b≠c:=λb hb z=>by
     subst z
     rcases List.mem_append.mp hb with y |y
     .exact m3 b y b (by simp) rfl
     .exact q3 b (by simp) b y rfl
    have offC:∀b∈C1++C2,b≠c:=λb hb z=>by
     subst z
     apply s1
     rcases List.mem_append.mp hb with y |y<;>simp[y]
    have rd3:Rep K F3 d u:=rd.mono (x2.ff.trans x3.ff)
    have g4':=g4 F3 (upd H3 c (.lst (ws.set q u))) (.fz d) u [] (Same.refl _) (λb hb xs z=>Xax (offC b hb) z) ⟨rfl,rd3⟩
    have f4':=f4 F3 (upd H3 c (.lst (ws.set q u))) (.nl (us.set q (.fz d))) (.ref c) (c::(C1++([]++C2))) x3.ff (λb hb xs z=>Xax (off b hb) (x3.hh _ _ z)) ⟨c,ws.set q u,_,rfl,rfl,Xa0,g4'⟩
    rw[set_self_of f1]at f4'
    have sub:(a::(A1++(c::(C1++([]++C2))++A2))).Sublist (A i):=by
     rw[hA]
     exact List.Sublist.cons₂ _ (List.Sublist.append (List.Sublist.refl _) (List.Sublist.append (List.Sublist.cons₂ _ (List.Sublist.append (List.Sublist.refl _) (List.Sublist.append (List.nil_sublist _) (List.Sublist.refl _)))) (List.Sublist.refl _)))
    refine l.nx F3 _ Y _ (e3.change i hv (t':=.nl (ts.set j (.nl (us.set q (.fz d))))) (B:=a::(A1++(c::(C1++([]++C2))++A2))) ⟨a,vs,_,rfl,rfl,Xax hac (x3.hh _ _ ha2),f4'⟩ ?_ ?_ ?_ ?_) p3
    .exact (e.nod i).sublist sub
    .intro b hb
     exact⟨(e3.new i b (sub.subset hb)).1,(e3.new i b (sub.subset hb)).2.1⟩
    .intro j' hj' b hb z
     exact e.dis j' i b hj' z (sub.subset hb)
    .intro b o hb q'
     exact Xax (λz=>hb (by rw[hA,z];simp)) q'
   .exact p3.elim
  .exact p2.elim
 .exact p.elim
def rStep (K:Frag):V->Int->Hp->VK->Prop:=λx c H Q=>∃a xs,x = .ref a/\SqL K H a xs/\0<c/\∀p H',H p=none->Same H H'->H' p=some (.lst (stepG xs c))->Q (.ref p) H'
def tStep (r:V->Int->Hp->VK->Prop)(te tc:TE):TE:=λY H Q=>te Y H λx H1=>tc Y H1 λc H2=>∃i,c = .int i/\r x i H2 Q
theorem vals_pick (h:Vals xs us): ∀(js:List Nat),Vals (js.filterMap (xs[·]?)) (js.filterMap (us.toArray[·]?))
 | []=>.nil
 |j :: js=>by
  have ih:=vals_pick h js
  by_cases hj:j<xs.length
  .obtain ⟨u,hu,ru⟩:=h.get (i:=j) (x:=xs[j]) (by simp)
   have e1:xs[j]?=some xs[j]:=by simp
   have e2:us.toArray[j]?=some u:=by simpa using hu
   rw[List.filterMap_cons_some e1,List.filterMap_cons_some e2]
   exact .cons ru ih
  .have hj':¬ j<us.length:=by rw[<- h.length];exact hj
   have e1:xs[j]?=none:=by simp;lia
   have e2:us.toArray[j]?=none:=by simp;lia
   rw[List.filterMap_cons_none e1,List.filterMap_cons_none e2]
   exact ih
theorem pe_step (he:PE X e te)(hc:PE X c tc): PE X (.Subscript e (.Slice none none (some c) p2) pos) (tStep (rStep X.K) te tc):=by
 intro pins s Y H Q I h
 refine Subscript_ (thn (he pins s Y H _ I h) λv s1 ⟨x,H1,I1,r1,q1⟩=>?_)
 refine wpAny_Slice ?_
 refine wpAny_pure ?_
 refine wpAny_pure ?_
 refine thn (hc pins s1 Y H1 _ I1 q1) λvc s3 ⟨y,H3,I3,rc,i,ey,q3⟩=>?_
 subst ey
 obtain⟨a,xs,rfl,hq,hi,q⟩:=q3
 obtain⟨tk,rfl⟩:=rc
 cases r1
 have I4:Inv X pins Y H3 {s3 with heap:=s3.heap.push {cls:=.type "slice",data:=.fields #[.none,.none,.int i tk]}}:=I3.kept (t':=s3.toks) λb ob q=>Heap.get?_push_of_some _ q
 obtain⟨its,rv,pl,hz⟩:=I4.list hq
 have hn:=rv.length
 have hbd:sliceBounds none none (some i) its.toArray.size=(0,(xs.length:Int),i):=by
  unfold sliceBounds
  simp[hi,hn]
 have hpk:slicePick its.toArray none none (some i)=((sliceRange 0 xs.length i).filterMap (its.toArray[·]?)).toArray:=by
  unfold slicePick
  rw[hbd]
 refine tail_any (T := "list") (ops:=[.ref a,.ref s3.heap.objs.size]) pl.isList.typeIs slot_list_getitem.lookup ?_ (by with_unfolding_all rfl)
 refine wpAny_getItem_list_slice pl.isList (Heap.IsSliceOf.new ..) .none .none (.int i tk) (by intro z;injection z with z;lia) ?_ (by rw[List.size_toArray]<;>lia)
 rw[hpk]
 have hle:(stepG xs i).length<=xs.length:=by
  have h1:=slicePick_size_le its.toArray none none (some i)
  rw[hpk,List.size_toArray,List.size_toArray]at h1
  have h2:=(vals_pick rv (sliceRange 0 xs.length i)).length
  show ((sliceRange 0 xs.length i).filterMap (xs[·]?)).length<=_
  lia
 have hf:=I4.hok.fresh (Nat.le_refl _)
 refine⟨.ref _,_,I4.laid (t':=s3.toks) (o:=.lst (stepG xs i)) (λb ob q=>Heap.get?_push_of_some _ q) (Nat.le_refl _) ?_,rfl,q _ _ hf (Same.new hf) Xa0⟩
 exact⟨Nat.le_trans hle hz,_,0,vals_pick rv (sliceRange 0 xs.length i),Heap.get?_push_size _ rfl⟩
theorem Reps.pick (h:Reps K F ds vs): ∀(js:List Nat),Reps K F (js.filterMap (ds[·]?)) (js.filterMap (vs[·]?))
 | []=>rfl
 |j :: js=>by
  have ih:=Reps.pick h js
  have hl:=h.length
  by_cases hj:j<ds.length
  .obtain ⟨v,hv,rv⟩:=h.get (i:=j) (d:=ds[j]) (by simp)
   have e1:ds[j]?=some ds[j]:=by simp
   rw[List.filterMap_cons_some e1,List.filterMap_cons_some hv]
   exact⟨v,_,rfl,rv,ih⟩
  .have e1:ds[j]?=none:=by simp;lia
   have e2:vs[j]?=none:=by simp;lia
   rw[List.filterMap_cons_none e1,List.filterMap_cons_none e2]
   exact ih
theorem Reps.step (h:Reps K F ds vs)(c:Int): Reps K F (stepG ds c) (stepG vs c):=by
 unfold stepG
 rw[h.length]
 exact h.pick _
theorem sO_slSt (ha:SimF K ta Ea)(hc:SimB K tc Ec): SimO K (tStep (rStep K) ta tc) (dSlSt Ea Ec):=λF0 H0 F H Y δ P Q e w q=>
 ha F0 H0 F H Y δ _ _ e w λx v F1 H1 w1 x1 r1=>hc F0 H0 F1 H1 Y δ _ _ (e.on x1) w1 λc u F2 H2 w2 x2 r2=>by
  have x12:=x1.trans x2
  split at w2
  .obtain ⟨c0,w2⟩:=w2
   obtain⟨p,vs,rfl,h1,h2⟩:=r1.mono x2.ff
   exact⟨_,r2,p,vs,rfl,x2.fh.seq h1,c0,λl H' l0 sm l1=>q _ _ F2 H' w2 (x12.trans (Ext.grow x2.fh sm)) (RepN.list (x12.hh.free l0) (x2.fh.free l0) l1 (h2.step _))⟩
  .exact w2.elim
structure DefAtD (K:Frag) (mg:Str->Option Value) (x:Str) (st:Stmt) (f:Addr) (fd:FuncData) (T:Addr) (items:Array Value):Prop where
 ex:∃(oc:Value) (od:Option Addr) (kV doc pm:Value) (an:Option Addr) (cdv ct:Value) (osl:Array (Option Value)),
  fd=PySem.W.fnOf x x (defArgs st) (Xa4 st) (Xac st) (.ref T) kV doc pm an cdv ct/\K.lookup f=some ⟨oc,od,.func fd,osl⟩/\PySem.W.codeIn K cdv x=true
 tup:∃o n,K.lookup T=some o/\o.data = .seq items n
 kp:PySem.W.keepIn K (.ref f)=true
 here:mg x=some (.ref f)
structure CalD (P:Program) (w:World) (K:Frag) (mg:Str->Option Value) (base:Heap) (x:Str) (k:Nat) (ps:List Str) (sp:Sp) (dvs:List V):Prop where
 ex:∃f fd ds,FnOk P w K mg base CX0 k f fd ps sp/\mg x=some (.ref f)/\PySem.W.keepIn K (.ref f)=true/\Binds K fd ps []/\Binds K fd ps ds/\Vals dvs ds
theorem CalD.cal {mg:Str->Option Value}(C:CalD P w K mg base x k ps sp dvs): Cal P w K mg base x k ps sp:=by
 obtain⟨f,fd,ds,a,b,c,d,_⟩:=C.ex
 exact⟨f,fd,a,b,c,d⟩
theorem CalVD.of {P:Program}{w:World}{mg:Str->Option Value}{base:Heap}{x:Str}{st:Stmt}{f T:Addr}{items:Array Value}{fd:FuncData}{N ps:List Str}{k n:Nat}{sp:DSp}{ds:List Value}{dvs:List V}(Df:DefAtD K mg x st f fd T items)(S:FnScope N ps (Xac st))
  (hb:∀(kV doc pm:Value) (an:Option Addr) (cdv ct:Value) (us:List Value),us.length=ps.length->∃k,bindArgs (PySem.W.fnOf x x (defArgs st) (Xa4 st) (Xac st) (.ref T) kV doc pm an cdv ct) ⟨us,[]⟩=seqItems? (.ref T) >>= k/\k (some items)=pure (ps.zip us))
  (hb2:∀(kV doc pm:Value) (an:Option Addr) (cdv ct:Value) (us:List Value),(us++ds).length=ps.length->∃k,bindArgs (PySem.W.fnOf x x (defArgs st) (Xa4 st) (Xac st) (.ref T) kV doc pm an cdv ct) ⟨us,[]⟩=seqItems? (.ref T) >>= k/\k (some items)=pure (ps.zip (us++ds)))
  (hv:Vals dvs ds) (hn:n=ps.length)
  (hbody:∀(cdv:Value) (A:Around) (outer:List Env) (s:Shared) (H:Hp) (E:XK),Room k (A.deeper (envOfC x (Xac st) s.heap.objs.size f cdv))->
   ∃t T,PSs (cxOf CX0 P w K mg base N x (Xac st) f cdv A outer s H E).nox (Xa4 st) t/\SimS K t T/\∀ds Pr,sp ds Pr->T {nx:=λ_=>Pr (.fz .non),rt:=Pr} (startV N ds)):CalD P w K mg base x (k+1) ps (spV K n sp) dvs:=by
 obtain⟨oc,od,kV,doc,pm,an,cdv,ct,osl,rfl,lk,hcd⟩:=Df.ex
 obtain⟨o,m,ht,hs⟩:=Df.tup
 refine⟨f,_,ds,fn_of lk hcd S (λvs H Q E h=>by rw[<- hn];exact h.1) (λA outer s H vs Q E hr h=>?_),Df.here,Df.kp,λs us KX hl=>?_,λs us KX hl=>?_,hv⟩
 .obtain ⟨_,F,ds',Pr,hs',hr',hsp,hq⟩:=h
  obtain⟨t,T',h1,h2,h3⟩:=hbody cdv A outer s H E hr
  refine⟨t,h1.nox,h2 F H F H (start N vs) (startV N ds') {nx:=λ_=>Pr (.fz .non),rt:=Pr} _ ⟨_,startV_er hs' hr'⟩ ⟨λF' H' Y δ e p=>?_,λ_ _ _ _ _ z=>z.elim,λ_ _ _ _ _ z=>z.elim,λF' H' r v x n p=>hq r v F' H' p x n⟩ (h3 ds' Pr hsp)⟩
  exact hq _ _ F' H' p e.ext (.fz rfl)
 .rw [List.append_nil]at hl ⊢
  obtain⟨k',e1,e2⟩:=hb kV doc pm an cdv ct us hl
  exact PySem.W.binds_K KX rfl ht hs e1 e2
 .obtain ⟨k',e1,e2⟩:=hb2 kV doc pm an cdv ct us hl
  exact PySem.W.binds_K KX rfl ht hs e1 e2
end
def dRngD (As:DA):DA:=λδ P=>As δ λds=>match ds with
 | [.int i,.int j,.int c]=>c = -1/\(-(2^61)<=i/\i<2^61/\-(2^61)<=j/\j<2^61)/\P (rng i (-1) (i-j).toNat)
 |_=>False
section
variable {X:Cx}{K:Frag}{tg:Expr}
theorem rng_down {i j:Int}:Builtin.Range.rangeSize i j (-1)=((i-j).toNat:Int):=by
 unfold Builtin.Range.rangeSize
 rw[if_neg (by decide)]
 split
 .rw [show (-(-1):Int)=1 by decide];lia
 .lia
theorem small_down {a b:Int}(h1 : -(2^61)<=a)(h2:a<2^61)(h3 : -(2^61)<=b)(h4:b<2^61):Builtin.Range.small a b (-1)=true:=by
 unfold Builtin.Range.small
 rw[rng_down]
 simp only[Builtin.Range.rangeFitsLong,Bool.and_eq_true,Bool.or_eq_true,decide_eq_true_eq,show ¬ ((-1:Int) > 0) from by decide,if_false]
 omega
def iRngD (ta:TA):TI:=λY H R=>ta Y H λvs H1=>∃i j:Int,vs=[.int i,.int j,.int (-1)]/\(-(2^61)<=i/\i<2^61/\-(2^61)<=j/\j<2^61)/\R (Itrs i (-1) (i-j).toNat) H1
theorem pi_rangeD {a b d:Expr}{ta:TA}{p pos:Pos}(hg:Gl X "range")(hm:X.mg "range"=none)(ha:PA X [a,b,d] ta)(hs:starEach [a,b,d] X.env=(false,eval a X.env)::starEach [b,d] X.env:=by rfl)
  (hpl:(backTo pos (starEach [b,d] X.env)).any (·.1)=false:=by rfl):
  PI X tg (.Call (.Name "range" p) [a,b,d] [] pos) (iRngD ta):=by
 intro pins s Y H R I h
 refine Call_ (ld_blt I hg hm boot_range (PyProof.Rows.callWith_type1 (thn (ha pos pins s Y H _ I h) λus s1 ⟨vs,H1,I1,r1,q1⟩=>?_) hs hpl))
 obtain⟨i,j,e,⟨q1,q2,q3,q4⟩,q⟩:=q1
 subst e
 cases r1 with
 |cons r rr=>
  cases rr with
  |cons r' rr=>
   cases rr with
   |cons r'' rr=>
    cases rr
    obtain⟨t,rfl⟩:=r
    obtain⟨t',rfl⟩:=r'
    obtain⟨t'',rfl⟩:=r''
    refine PySem.call_range_3 (by lia) ?_ (.inl (PyProof.noPylong_small (by decide)))
    refine wpAny_pyIter_range (IsRange.new ..) (small_down q1 q2 q3 q4) ?_
    have I2:Inv X pins Y H1 {s1 with heap:=s1.heap.push {cls:=.type "range",data:=.fields #[.int i t,.int j t',.int (-1) t'']},toks:=s1.toks}:=I1.kept λb o e=>Heap.get?_push_of_some _ e
    refine⟨(s1.heap.push {cls:=.type "range",data:=.fields #[.int i t,.int j t',.int (-1) t'']}).objs.size,[(s1.heap.push {cls:=.type "range",data:=.fields #[.int i t,.int j t',.int (-1) t'']}).objs.size],_,_,H1,rfl,
     I2.kept (t':=s1.toks) λb o e=>Heap.get?_push_of_some _ e,turn_rangeS _ i (-1) (i-j).toNat,?_,λb hb=>?_,q⟩
    .have e1:i+((0:Nat):Int)*(-1)=i:=by simp
     have e2:(((i-j).toNat:Nat):Int)-((0:Nat):Int)=Builtin.Range.rangeSize i j (-1):=by rw[rng_down];simp
     rw[e1,e2]
     exact Heap.get?_push_size _ rfl
    .have e:b=(s1.heap.push {cls:=.type "range",data:=.fields #[.int i t,.int j t',.int (-1) t'']}).objs.size:=by simpa using hb
     subst e
     exact I2.fpOk (Nat.le_refl _) (I2.hok.fresh (Nat.le_refl _))
theorem sI_rngD {a:TA}{As:DA}(h:SimAB K a As):SimI K (iRngD a) (dRngD As):=λF0 H0 F H Y δ P R e w q=>h F0 H0 F H Y δ _ _ e w λds vs F' H' p x r=>by
 split at p
 .obtain ⟨v,u,z,rfl,r1,r2,r3⟩:=reps3 r
  obtain⟨rfl,p1,p2⟩:=p
  exact⟨_,_,by rw[show v=_ from r1,show u=_ from r2,show z=_ from r3],p1,q _ _ F' H' p2 x itR_itrs⟩
 .exact p.elim
end
theorem CmpW.mapB {α:Type}{Eo:DO}{o:Option Sl}{rest:Dst}{P:OV->Prop}(xs:List α)(g:α->D)(f:α->OV)(hn:xs.length<=1000000)
  (h:∀x∈xs,∀Q:OV->Prop,Q (f x)->Eo (some (.bw (g x))::rest) Q) (k:P (.nl (xs.map f))):CmpW (gB 0) Eo (xs.map g) (o::rest) P:=by
 refine⟨λi δ ts=>∃o,δ=o::rest/\ts=(xs.take i).map f,⟨o,rfl,rfl⟩,?_,?_⟩
 .rintro i d δ ts hd ⟨o,rfl,rfl⟩
  obtain⟨x,hx,rfl⟩:=mget hd
  obtain⟨hi,e⟩:=List.getElem?_eq_some_iff.mp hx
  refine⟨by rw[List.length_map,List.length_take];lia,h x (List.mem_of_getElem? hx) _ ⟨_,rfl,?_⟩⟩
  rw[List.take_succ_eq_append_getElem hi,e,List.map_append]
  rfl
 .rintro δ ts ⟨o,rfl,rfl⟩
  rw[List.length_map,List.take_length]
  exact k
def ibN (i:Int):Nat:=if i=0 then 0 else i.natAbs.log2+1
theorem ibN_abs:ibN (i.natAbs:Int)=ibN i:=by
 unfold ibN
 by_cases h:i=0
 .subst h;rfl
 .rw [if_neg h,if_neg (by lia)];rfl
theorem ibN_lt (h1 : -(2^n)<i)(h2:i<2^n): ibN i<=n:=by
 unfold ibN
 split
 .exact Nat.zero_le _
 .have hp:((2^n:Nat):Int)=(2:Int)^n:=rfl
  have hn:i.natAbs<2^n:=by omega
  have:i.natAbs.log2<n:=(Nat.log2_lt (by lia)).mpr hn
  lia
section
variable {K:Frag}{X:Cx}
theorem ibN_eq:Builtin.Int.intBits i=ibN i:=by
 unfold Builtin.Int.intBits ibN
 by_cases h:i=0
 .subst h;rfl
 .simp
theorem weight_ints:∀(ns:List Int),(∀m∈ns,ibN m<=PySem.W.WData.weightAll (ns.map PySem.W.WData.int))
 | [],m,h=>by cases h
 |n :: ns,m,h=>by
  rw[List.map_cons]
  simp only[PySem.W.WData.weightAll]
  rcases List.mem_cons.mp h with rfl |h
  .have:ibN m=PySem.W.WData.weight (PySem.W.WData.int m):=by
    unfold ibN
    simp only[PySem.W.WData.weight]
    by_cases z:m=0
    .subst z;rfl
    .simp
   lia
  .have:=weight_ints ns m h
   lia
end
end L2
namespace Att
open PySem PySem.W PySem.Calls PyProof.Rows
theorem attach_callB {l:OpenLaw}{n:Nat}{q:Program}{loose:List Str}{XP:(Str->Option Value)->Heap->Prop}{YP:World->Heap->Prop}{d:DefRec}
  (hn:l.most=some n) (hdf:d.params.defaults=[])
  (call:∀(w:World) (s₀ s₁:Shared) (mg mb:Str->Option Value) (fa:Addr) (o:Obj) (pm cd doc:Value) (a:Addr) (vs:List Value) (ns:List Int),
   Ground q loose [] XP w s₀ mg mb s₁.heap->YP w s₁.heap->
   s₁.heap.get? fa=some o->o.data = .func (docDef d.name d.params d.body d.scope pm cd doc)->s₁.heap.CodeRec cd d.name->mg d.name=some (.ref fa)->
   s₁.heap.get? a=some {cls:=.type "list",data:=.seq vs.toArray}->IntsAre vs ns->ns.length<=n->(∀m∈ns,L2.ibN m<=1048576)->s₁.gens=#[]->
   codeAny (model l.prog w) callerA (.call (.ref fa) ⟨[.ref a],[]⟩) (λr s'=>r = .ok (.ret (.bool true))/\OldK s₁.heap s'.heap/\s'.os=s₁.os/\AllBare s'.gens) s₁):
  WalkO q loose XP YP l.row.toRowW d [] (λf vs=>PySem.call f vs):=by
 intro w s₀ s₁ mg mb G σ fa o pm cd doc dV kV ho hd hcd hD hmg hg args vals as hpre hlay hrd hwl hlo
 obtain rfl:dV = .none:=Dflts.none hD hdf
 obtain rfl:kV = .none:=Dflts.noKw hD
 obtain⟨a,vs,ns,rfl,rfl,hobj,hints,hlen⟩:=script_of hn hpre hwl
 have hbits:∀m∈ns,L2.ibN m<=1048576:=λm hm=>by
  have h1:=L2.weight_ints ns m hm
  have h2:WData.weight (WData.list (ns.map WData.int))<=2^20:=by
   simp only[WData.layableAll,List.all_cons,WData.layable,Bool.and_eq_true,decide_eq_true_eq]at hlay
   exact hlay.1.2
  simp only[WData.weight]at h2
  lia
 refine enter_call (codeAny_mono (call w s₀ s₁ mg mb fa o pm cd doc a vs ns G σ ho (fd_plain hd) hcd hmg hobj hints hlen hbits hg) λr s' hq=>?_)
 obtain⟨rfl,h2,h3,h4⟩:=hq
 exact⟨.inl ⟨.bool true,.bool true,[],rfl,λ_=>rfl,.bool true,post_true l _,λ_=>⟨List.Pairwise.nil,λ_ hm=>(nomatch hm)⟩⟩,h2,h3,h4⟩
end Att
namespace L2
open PySem PySem.Spec PyProof.Rows
section
variable {X:Cx}{K:Frag}{mg:Str->Option Value}
end
def dBitL (E:DE):DE:=λδ P=>E δ λd=>match d with
 | .int i=>P (.int (ibN i))
 |_=>False
section
variable {X:Cx}{K:Frag}
def rBitL:V->List V->Hp->VK->Prop:=λx xs H Q=>∃i,x = .int i/\xs=[]/\Q (.int (ibN i)) H
theorem mt_bitL:MtR X "int.bit_length" rBitL:=by
 intro pins s Y H x vs v us Q I rx rv h
 obtain⟨i,rfl,rfl,q⟩:=h
 obtain⟨t,rfl⟩:=rx
 cases rv
 refine call_int_bit_length ?_
 rw[ibN_eq]
 exact⟨.int _,H,I.tok _,⟨_,rfl⟩,q⟩
theorem sF_bitL (h:SimB K to E): SimF K (tBM0 K "int" rBitL to) (dBitL E):=λF0 H0 F H Y δ P Q e w q=>h F0 H0 F H Y δ _ _ e w λd v F1 H1 w1 x1 r1=>by
 split at w1
 .have e1:v=_:=r1
  subst e1
  exact⟨rfl,_,rfl,rfl,q _ _ F1 H1 w1 x1 rfl⟩
 .exact w1.elim
theorem cS_maxL:CbS K (rMaxL K) maxLD:=λF H ds vs P Q s rs w q=>by
 unfold maxLD at w
 split at w
 .obtain ⟨ns,rfl,hn,w⟩:=w
  obtain⟨v,rfl,p,us,rfl,h1,h2⟩:=reps1 rs
  rw[reps_ints]at h2
  subst h2
  exact⟨p,ns,rfl,h1,hn,λM hM hA=>q _ _ F H (w M hM hA) (Ext.refl s) rfl⟩
 .exact w.elim
end
section
variable {K:Frag}{mg:Str->Option Value}
end
section
variable {X:Cx}{K:Frag}
end
section
variable {X:Cx}{K:Frag}
end
def dZip (As:DA):DA:=λδ P=>As δ λds=>match ds with
 | [.lst xs,.lst ys]=>P ((xs.zip ys).map λp=>D.tup [p.1,p.2])
 |_=>False
section
variable {X:Cx}{K:Frag}{mg:Str->Option Value}
theorem Inv.turnedL {pins:List (Addr×Obj)}{Y:St}{H:Hp}{s:Shared}{h':Heap}{t':Nat}{L:List Addr}(I:Inv X pins Y H s)(k:∀b o,b∉L->s.heap.get? b=some o->h'.get? b=some o)(f:∀b∈L,FpOk X pins H b):Inv X pins Y H {s with heap:=h',toks:=t'}:=by
 have nn:∀b u,H b=some u->b∉L:=λb u e z=>by
  obtain⟨p0,_⟩:=f b z
  rw[p0]at e;cases e
 refine I.step (g':=s.gens) (d':=s.drawn) (λb hb=>?_) (λb o _ _ hc e _=>k b o hc e) (λb o _ _ hc e _=>⟨o.slots,k b o hc e⟩) (λ_ _ _ _ n=>n)
  (λb o hc e=>⟨o,k b o hc e⟩) (λ_ _ e=>e) (λ_ _ _ e=>e) (λb ps e=>⟨#[],by rw[e];simp⟩) (λm hm=>?_) (λb u e=>?_) I.bare
 .obtain ⟨p0,p1,p2,p3,p4,p5⟩:=f b hb
  exact⟨p3,p1,p4,p5⟩
 .obtain ⟨o,es,ep,ho,r⟩:=hm
  refine⟨o,es,ep,k _ o (λz=>?_) ho,r⟩
  obtain⟨p0,p1,_⟩:=f _ z
  exact p1 rfl
 .refine (I.hok b u e).stay (λc v hc q=>k c v ?_ q) (λ_ q=>q) λ_ _ q _=>q
  rcases hc with z |z
  .rw [z];exact nn b u e
  .exact nn c _ z
def Itz (K:Frag)(a1 a2:Addr)(xs ys:List V):It:=
 ⟨λi H=>SqL K H a1 xs/\SqL K H a2 ys/\i<xs.length/\i<ys.length,λi H x H'=>∃p y1 y2,x = .ref p/\H p=none/\Same H H'/\xs[i]?=some y1/\ys[i]?=some y2/\H' p=some (.tup [y1,y2]),λi H=>SqL K H a1 xs/\SqL K H a2 ys/\(xs.length<=i∨ys.length<=i)⟩
theorem ne_list {h:Heap}{l z:Addr}{xs:Array Value}{o:Obj}(hl:h.IsList l xs)(e:h.get? z=some o)(hc:o.cls≠.type "list"):l≠z:=λq=>by
 subst q
 obtain⟨o',e1,e2,_⟩:=hl
 rw[e]at e1
 cases e1
 exact hc e2
structure Zip5 (z TI TO i1 i2:Addr):Prop where
 TIz:TI≠z
 TOz:TO≠z
 i1z:i1≠z
 i2z:i2≠z
 TITO:TI≠TO
 TIi1:TI≠i1
 TIi2:TI≠i2
 TOi1:TO≠i1
 TOi2:TO≠i2
 i12:i1≠i2
theorem zip5_at (n:Nat):Zip5 (n+4) (n+2) (n+3) n (n+1):=
 ⟨λq=>by have q:(n+2:Nat)=n+4:=q;lia,λq=>by have q:(n+3:Nat)=n+4:=q;lia,λq=>by have q:(n+0:Nat)=n+4:=q;lia,λq=>by have q:(n+1:Nat)=n+4:=q;lia,λq=>by have q:(n+2:Nat)=n+3:=q;lia,λq=>by have q:(n+2:Nat)=n+0:=q;lia,λq=>by have q:(n+2:Nat)=n+1:=q;lia,λq=>by have q:(n+3:Nat)=n+0:=q;lia,λq=>by have q:(n+3:Nat)=n+1:=q;lia,λq=>by have q:(n+0:Nat)=n+1:=q;lia⟩
theorem zip_apart {h:Heap}{z TI TO i1 i2 l1 l2:Addr}{xs ys:Array Value}{a b:Value}{k1 k2:Nat}{c1 c2:Addr}(D:Zip5 z TI TO i1 i2)(hz:IsZip h z TI TO .none)(hTO:IsPair h TO a b)(h1:h.IsListIter i1 c1 k1)(h2:h.IsListIter i2 c2 k2)(hl1:h.IsList l1 xs)(hl2:h.IsList l2 ys):ZipApart z TI TO i1 i2 l1 l2:=by
 obtain⟨o1,e1,q1,_⟩:=h1
 obtain⟨o2,e2,q2,_⟩:=h2
 exact⟨D.TIz,D.TOz,D.i1z,D.i2z,D.TITO,D.TIi1,D.TIi2,D.TOi1,D.TOi2,D.i12,ne_list hl1 hz (by simp),ne_list hl1 hTO (by simp),ne_list hl1 e1 (by rw[q1];simp),ne_list hl1 e2 (by rw[q2];simp),
  ne_list hl2 hz (by simp),ne_list hl2 hTO (by simp),ne_list hl2 e1 (by rw[q1];simp),ne_list hl2 e2 (by rw[q2];simp)⟩
theorem turn_zip {P:Program}{w:World}{K:Frag}{elts:List Expr}{x1:Nat}{tpos:Pos}(a1 a2 z TI TO i1 i2:Addr)(xs ys:List V)(D:Zip5 z TI TO i1 i2):
  Turn P w K (.Tuple elts x1 tpos) (Itz K a1 a2 xs ys) [z,TI,TO,i1,i2] z (λi h=>IsZip h z TI TO .none/\IsPair h TI (.ref i1) (.ref i2)/\(∃a b,IsPair h TO a b)/\h.IsListIter i1 a1 i/\h.IsListIter i2 a2 i) where
 mem:=by simp
 obj:=λi h st b hb=>by
  obtain⟨h1,h2,⟨a,b',h3⟩,⟨o4,q4,_,r4⟩,⟨o5,q5,_,r5⟩⟩:=st
  have hb':b=z∨b=TI∨b=TO∨b=i1∨b=i2:=by simpa using hb
  rcases hb' with q |q |q |q |q
  .subst q;exact⟨_,h1,λv q=>by cases q⟩
  .subst q;exact⟨_,h2,λv q=>by cases q⟩
  .subst q;exact⟨_,h3,λv q=>by cases q⟩
  .subst q;exact⟨_,q4,λv q=>by rw[r4]at q;cases q⟩
  .subst q;exact⟨_,q5,λv q=>by rw[r5]at q;cases q⟩
 keep:=λi h h' st k=>by
  obtain⟨h1,h2,⟨a,b',h3⟩,h4,h5⟩:=st
  exact⟨k z (by simp) _ h1,k TI (by simp) _ h2,⟨a,b',k TO (by simp) _ h3⟩,h4.at λo q=>k i1 (by simp) o q,h5.at λo q=>k i2 (by simp) o q⟩
 item := by
  kj_on
  obtain⟨h1,h2,⟨a,b',h3⟩,h4,h5⟩:=st
  obtain⟨hq1,hq2,hi1,hi2⟩:=hg
  obtain⟨its1,rv1,p1,hz1⟩:=I.list hq1
  obtain⟨its2,rv2,p2,hz2⟩:=I.list hq2
  obtain⟨u1,hu1,ru1⟩:=rv1.get (i:=i) (x:=xs[i]) (by simp)
  obtain⟨u2,hu2,ru2⟩:=rv2.get (i:=i) (x:=ys[i]) (by simp)
  refine wpAny_pyNext_zip_item (zip_apart D h1 h3 h4 h5 p1.isList p2.isList) h1 h2 h3 h4 h5 p1.isList p2.isList (by simpa using hu1) (by simpa using hu2) λh' g1 g2 g3 g4 g5 g6 g7=>?_
  refine⟨_,rfl,wpAny_letOwnedTupleGo_zip g1 λh'' k1 k2=>?_⟩
  have hf':=I.hok.fresh (Nat.le_refl _)
  have I0:Inv X pins Y (upd H s.heap.objs.size (.tup [xs[i],ys[i]])) {s with heap:=s.heap.push {cls:=.type "tuple",data:=.seq #[u1,u2]},toks:=s.toks}:=
   I.laid (t':=s.toks) (o:=.tup [xs[i],ys[i]]) (λb ob q=>Heap.get?_push_of_some _ q) (Nat.le_refl _) ⟨sz_le (n:=2) (by decide),[u1,u2],.cons ru1 (.cons ru2 .nil),⟨_,Heap.get?_push_size _ rfl,rfl,_,rfl⟩⟩
  have old:∀b∈[z,TI,TO,i1,i2],b≠s.heap.objs.size:=λb hb q=>by
   have hb':b=z∨b=TI∨b=TO∨b=i1∨b=i2:=by simpa using hb
   have hlt:b<s.heap.objs.size:=by
    rcases hb' with y |y |y |y |y
    .rw [y];exact Heap.lt_size h1
    .rw [y];exact Heap.lt_size h2
    .rw [y];exact Heap.lt_size h3
    .obtain ⟨o,r1,_⟩:=h4
     rw[y];exact Heap.lt_size r1
    .obtain ⟨o,r1,_⟩:=h5
     rw[y];exact Heap.lt_size r1
   rw[q]at hlt
   exact Nat.lt_irrefl _ hlt
  have fe:∀b∈[z,TI,TO,i1,i2],FpOk X pins (upd H s.heap.objs.size (.tup [xs[i],ys[i]])) b:=λb hb=>by
   obtain⟨q0,q1,q2,q3,q4,q5⟩:=hf b hb
   refine⟨?_,q1,q2,q3,q4,q5⟩
   rw[upd_ne]
   .exact q0
   .exact old b hb
  have I1 : Inv X pins Y (upd H s.heap.objs.size (.tup [xs[i],ys[i]])) {s with heap:=h'',toks:=s.toks}:=by
   have:=I0.turnedL (h':=h'') (t':=s.toks) (L:=[z,TO,i1,i2]) (λb o hb q=>?_) (λb hb=>fe b (by
    have hb':b=z∨b=TO∨b=i1∨b=i2:=by simpa using hb
    rcases hb' with y |y |y |y<;>simp[y]))
   .exact this
   .have bz:b≠z:=λy=>hb (by simp[y])
    have hb2:h'.get? b=some o:=by
     by_cases y:b=s.heap.objs.size
     .subst y
      rw[Heap.get?_push_size _ rfl]at q
      rw[<- q];exact g5
     .rw [Heap.get?_push_ne _ _ _ y]at q
      exact g7 b o bz (λy=>hb (by simp[y])) (λy=>hb (by simp[y])) (λy=>hb (by simp[y])) q
    exact k2.extBut b o bz hb2
  have hTI':h'.get? TI=_:=g7 TI _ D.TIz D.TITO D.TIi1 D.TIi2 h2
  refine⟨.ref s.heap.objs.size,_,I1,rfl,⟨_,xs[i],ys[i],rfl,hf',Same.new hf',by simp,by simp,Xa0⟩,⟨k1,k2.extBut _ _ D.TIz hTI',⟨_,_,k2.extBut _ _ D.TOz g2⟩,g3.extBut k2.extBut D.i1z,g4.extBut k2.extBut D.i2z⟩,λb hb=>(fe b hb).1⟩
 done:=by
  kj_on
  obtain⟨h1,h2,⟨a,b',h3⟩,h4,h5⟩:=st
  obtain⟨hq1,hq2,hi⟩:=hg
  obtain⟨its1,rv1,p1,hz1⟩:=I.list hq1
  obtain⟨its2,rv2,p2,hz2⟩:=I.list hq2
  have hl1:=rv1.length
  have hl2:=rv2.length
  refine wpAny_pyNext_zip_end (I.ok.hd hc) (zip_apart D h1 h3 h4 h5 p1.isList p2.isList) h1 h2 h3 h4 h5 p1.isList p2.isList (by
   rcases hi with q |q
   .exact .inl (by simp;lia)
   .exact .inr (by simp;lia)) λh' eb=>⟨rfl,I.turnedL (t':=s.toks) (L:=[z,TO,i1,i2]) (λb o hb q=>eb b o (λy=>hb (by simp[y])) (λy=>hb (by simp[y])) (λy=>hb (by simp[y])) (λy=>hb (by simp[y])) q) (λb hb=>hf b (by
    have hb':b=z∨b=TO∨b=i1∨b=i2:=by simpa using hb
    rcases hb' with y |y |y |y<;>simp[y]))⟩
 self:=λ_ _ _ _ _ st h=>by
  obtain⟨h1,_⟩:=st
  exact wpAny_pyIter_zip h1 h
def iZip (K:Frag)(ta:TA):TI:=λY H R=>ta Y H λvs H1=>∃a1 a2 xs ys,vs=[.ref a1,.ref a2]/\SqL K H1 a1 xs/\SqL K H1 a2 ys/\R (Itz K a1 a2 xs ys) H1
theorem pi_zip {elts:List Expr}{x1:Nat}{tpos:Pos}{l m:Expr}{ta:TA}{p pos:Pos}(hg:Gl X "zip")(hm:X.mg "zip"=none)(ha:PA X [l,m] ta)(hs:starEach [l,m] X.env=(false,eval l X.env)::starEach [m] X.env:=by rfl)(hp:(backTo pos (starEach [m] X.env)).any (·.1)=false:=by rfl):PI X (.Tuple elts x1 tpos) (.Call (.Name "zip" p) [l,m] [] pos) (iZip X.K ta):=by
 intro pins s Y H R I h
 refine Call_ (ld_blt I hg hm PyProof.Rows.boot_zip (PyProof.Rows.callWith_type1 (thn (ha pos pins s Y H _ I h) λus s1 ⟨vs,H1,I1,r1,q1⟩=>?_) hs hp))
 obtain⟨a1,a2,xs,ys,e,hq1,hq2,q⟩:=q1
 subst e
 obtain⟨u1,u2,rfl,ru1,ru2⟩:=vals2 r1
 cases ru1
 cases ru2
 obtain⟨its1,rv1,pt1,hz1⟩:=I1.list hq1
 obtain⟨its2,rv2,pt2,hz2⟩:=I1.list hq2
 refine PySem.call_zip_2 pt1.isList pt2.isList λh' g1 g2 g3 g4 g5 g6 g7=>?_
 have I2:Inv X pins Y H1 {s1 with heap:=h',toks:=s1.toks}:=I1.kept (t':=s1.toks) g7
 refine wpAny_pyIter_zip (s:={s1 with heap:=h',toks:=s1.toks}) g1 ?_
 refine⟨s1.heap.objs.size+4,[s1.heap.objs.size+4,s1.heap.objs.size+2,s1.heap.objs.size+3,s1.heap.objs.size,s1.heap.objs.size+1],_,_,H1,rfl,I2,turn_zip a1 a2 _ _ _ _ _ xs ys ?_,⟨g1,g2,⟨_,_,g3⟩,g4,g5⟩,λb hb=>?_,q⟩
 .exact zip5_at _
 have hle:s1.heap.objs.size<=b:=by
  have hb':b=s1.heap.objs.size+4∨b=s1.heap.objs.size+2∨b=s1.heap.objs.size+3∨b=s1.heap.objs.size∨b=s1.heap.objs.size+1:=by simpa using hb
  rcases hb' with y |y |y |y |y
  .rw [y];exact Nat.le_add_right _ _
  .rw [y];exact Nat.le_add_right _ _
  .rw [y];exact Nat.le_add_right _ _
  .rw [y];exact Nat.le_refl _
  .rw [y];exact Nat.le_add_right _ _
 exact I1.fpOk hle (I1.hok.fresh hle)
theorem sI_zip {a:TA}{As:DA}(h:SimAF K a As):SimI K (iZip K a) (dZip As):=λF0 H0 F H Y δ P R e w q=>h F0 H0 F H Y δ _ _ e w λds vs F' H' p x r=>by
 split at p
 .rename_i xs ys
  obtain⟨v1,v2,rfl,⟨a1,us1,rfl,h1,h2⟩,⟨a2,us2,rfl,k1,k2⟩⟩:=reps2 r
  have hl1:=h2.length
  have hl2:=k2.length
  refine⟨a1,a2,us1,us2,rfl,x.fh.seq h1,x.fh.seq k1,q _ _ F' H' p x λF1 H1 s1 s2=>?_⟩
  have hq1:=(s1.trans s2).seq h1
  have hq2:=(s1.trans s2).seq k1
  have hlen:((xs.zip ys).map λp=>D.tup [p.1,p.2]).length=min xs.length ys.length:=by simp
  refine⟨λi hi=>⟨hq1,hq2,by lia,by lia⟩,⟨hq1,hq2,by lia⟩,λi x H2 hi y=>?_⟩
  obtain⟨t,y1,y2,rfl,ht,sm,hy1,hy2,ht2⟩:=y
  obtain⟨d1,hd1,rd1⟩:=h2.get' hy1
  obtain⟨d2,hd2,rd2⟩:=k2.get' hy2
  refine⟨.tup [d1,d2],upd F1 t (.tup [y1,y2]),?_,Ext.new s2 ht sm ht2,t,[y1,y2],rfl,.inl (.inl Xa0),?_⟩
  .rw [List.getElem?_map,List.getElem?_zip_eq_some (z:=(d1,d2)) |>.mpr ⟨hd1,hd2⟩]
   rfl
  .exact ⟨_,_,rfl,(rd1.mono s1).mono (Same.upd' (s2.free ht)),_,_,rfl,(rd2.mono s1).mono (Same.upd' (s2.free ht)),rfl⟩
 .exact p.elim
end
def dRep1 (Eo:DO)(Eb:DE):DO:=λδ P=>Eo δ λr=>match r with
 | .nl [.fz d]=>Eb δ λy=>match y with
  | .int k=>(0<=k/\k<=1000000)/\P (.nl (List.replicate k.toNat (.fz d)))
  |_=>False
 |_=>False
section
variable {X:Cx}{K:Frag}{mg:Str->Option Value}
theorem Reps.rep (h:Rep K F d v): ∀n:Nat,Reps K F (List.replicate n d) (List.replicate n v)
 | 0=>rfl
 |n+1=>⟨v,List.replicate n v,rfl,h,Reps.rep h n⟩
theorem sO_rep1 (ha:SimO K ta Eo)(hb:SimB K tb Eb): SimO K (tOp rRep ta tb) (dRep1 Eo Eb):=λF0 H0 F H Y δ P Q e w q=>
 ha F0 H0 F H Y δ _ _ e w λr v F1 H1 w1 x1 r1=>by
  split at w1
  .rename_i d
   obtain⟨A0,⟨p,vs,B,rfl,rfl,hp,hB⟩,a2,a3⟩:=r1
   obtain⟨v0,r0,B1,C,rfl,rfl,⟨_,rd⟩,hC,_⟩:=hB
   subst hC
   refine hb F0 H0 F1 H1 Y δ _ _ (e.on x1) w1 λy u F2 H2 w2 x2 r2=>?_
   split at w2
   .rename_i k
    obtain⟨⟨k0,k1⟩,pr⟩:=w2
    have x12:=x1.trans x2
    cases r2
    refine⟨p,k,[v0],rfl,rfl,x2.hh _ _ hp,by lia,by lia,sz_le (by simp;omega),λl l0=>?_⟩
    have ef:(List.replicate k.toNat [v0]).flatten=List.replicate k.toNat v0:=List.flatten_replicate_singleton
    rw[ef]
    have em:(List.replicate k.toNat d).map OV.fz=List.replicate k.toNat (OV.fz d):=List.map_replicate
    refine q _ _ F2 _ pr (x12.trans (Ext.grow x2.fh (Same.new l0))) ?_
    rw[<- em]
    exact RepN.list (x12.hh.free l0) (x2.fh.free l0) Xa0 (Reps.rep (rd.mono x2.ff) _)
   .exact w2.elim
  .exact w1.elim
end
section
variable {prog:Program}{w:World}{A:Around}{E:Value->Shared->Prop}{s:Shared}
end
section
variable {X:Cx}{K:Frag}{tg:Expr}
end
section
variable {X:Cx}{K:Frag}
end
section
variable {prog:Program}{w:World}{A:Around}{E:Value->Shared->Prop}{s:Shared}
end
section
variable {X:Cx}{K:Frag}{mg:Str->Option Value}
end
def dTupB (As:DA):DE:=λδ P=>As δ λds=>match ds with
 | [.lst xs]=>D.lfs xs=true/\P (.tup xs)
 |_=>False
def dCatB (Ea Eb:DE):DO:=λδ P=>Ea δ λx=>Eb δ λy=>match x,y with
 | .lst xs,.lst ys=>D.lfs xs=true/\D.lfs ys=true/\xs.length+ys.length<=1000000/\P (.nl ((xs++ys).map .fz))
 |_,_=>False
section
variable {X:Cx}{K:Frag}{mg:Str->Option Value}
theorem ER.drop {F0 H0 F H:Hp}{Y:St}{δ:Dst}{A:Nat->List Addr}(e:ER K F0 H0 F H Y δ A)(i:Nat):ER K F0 H0 F H Y (δ.set i none) (λj=>if j=i then [] else A j):=by
 have off:∀(j:Nat) (s:Sl),(δ.set i none)[j]?=some (some s)->j≠i/\δ[j]?=some (some s):=λj s hj=>by
  by_cases z:j=i
  .subst z
   have hi:j<δ.length:=by
    have:=(List.getElem?_eq_some_iff.mp hj).1
    rwa[List.length_set]at this
   rw[List.getElem?_set_self hi]at hj
   cases hj
  .rw [List.getElem?_set_ne (Ne.symm z)]at hj
   exact⟨z,hj⟩
 refine⟨by simp[e.len],e.ext,λj t hj=>?_,λj d hj=>e.bw j d (off j _ hj).2,λj=>?_,λj k a hjk h1 h2=>?_,λj a ha=>?_⟩
 .obtain ⟨z,hj⟩:=off j _ hj
  rw[if_neg z]
  exact e.own j t hj
 .split
  .exact List.nodup_nil
  .exact e.nod j
 .split at h1
  .cases h1
  .split at h2
   .cases h2
   .exact e.dis j k a hjk h1 h2
 .split at ha
  .cases ha
  .exact e.new j a ha
def TupC (K:Frag)(mg:Str->Option Value)(x:Str)(d:D):Prop:=∃a,mg x=some (.ref a)/\∀F,Rep K F d (.ref a)
def tGl (K:Frag)(d:D):TE:=λ_ H Q=>∀v,(∀F,Rep K F d v)->Q v H
theorem pe_globT (hg:Gl X x)(hm:TupC X.K X.mg x d)(hd:(x==("__debug__":Str))=false:=by decide): PE X (.Name x pos) (tGl X.K d):=by
 intro pins s Y H Q I h
 obtain⟨a,e,r⟩:=hm
 exact pe_glob (v:=.ref a) hg e rfl hd pins s Y H Q I (h _ r)
theorem sF_gl:SimF K (tGl K d) (dC d):=λF0 H0 F H Y δ P Q e w q=>λv r=>q d v F H w (Ext.refl e.ext.fh) (r F)
theorem sO_catB {ta tb:TE}{Ea Eb:DE}(ha:SimB K ta Ea)(hb:SimB K tb Eb):SimO K (tOp (rCatS K) ta tb) (dCatB Ea Eb):=λF0 H0 F H Y δ P Q e w q=>
 ha F0 H0 F H Y δ _ _ e w λx v F1 H1 w1 x1 r1=>hb F0 H0 F1 H1 Y δ _ _ (e.on x1) w1 λy u F2 H2 w2 x2 r2=>by
  have x12:=x1.trans x2
  have x3:=frzT_ext x12.fh
  split at w2
  .obtain ⟨w3,w4,w5,w6⟩:=w2
   obtain⟨p,vs,rfl,h1,h2⟩:=r1.mono x2.hh
   obtain⟨p',us,rfl,h3,h4⟩:=r2
   have l1:=h2.length
   have l2:=h4.length
   refine⟨p,p',vs,us,rfl,rfl,h1,h3,sz_le (by lia),λl H' l0 sm lk=>?_⟩
   exact q _ _ _ H' w6 (x12.trans (x3.trans (Ext.grow x3.fh sm))) (RepN.list (x12.hh.free l0) (x3.fh.free l0) lk ((Reps.lf x12.fh h2 w3).append (Reps.lf x12.fh h4 w4)))
  .exact w2.elim
end
open PySem PySem.Spec PyProof.Rows PyProof.V PySem.W
section
variable {P:Program}{w:World}{H:Hp}{h:Heap}{a:Addr}{o:HO}
end
section
variable {P:Program}{w:World}{K:Frag}{mg:Str->Option Value}{base:Heap}{N:List Str}{qual:Str}{scope:Scope}{f:Addr}{cd:Value}{A:Around}{outer:List Env}{s:Shared}{H:Hp}{E:XK}
end
section
variable {X:Cx}{pins:List (Addr×Obj)}{Y:St}{H:Hp}{s:Shared}
end
section
variable {X:Cx}
end
open PySem PySem.Spec PyProof.Rows
abbrev DMo:=List OV->List D->(List OV->Prop)->Prop
def dFld (c:Str)(ns:List Str)(j:Nat)(E:DE):DE:=λδ P=>E δ λd=>match d with
 | .obj c' ns' ds=>c'=c/\ns'=ns/\∃x,ds[j]?=some x/\P x
 |_=>False
def sFSet (c:Str)(ns:List Str)(i j:Nat)(Eo:DO):DS:=λDe δ=>match δ[i]? with
 |some (some (.own (.ob o c' ns' ts)))=>c'=c/\ns'=ns/\j<ts.length/\Eo δ λr=>De.nx (δ.set i (some (.own (.ob o c ns (ts.set j r)))))
 |_=>False
def sFNew (c:Str)(ns:List Str)(i j:Nat)(Eo:DO):DS:=λDe δ=>match δ[i]? with
 |some (some (.own (.ob o c' ns' ts)))=>c'=c/\ns'=ns/\j=ts.length/\Eo δ λr=>De.nx (δ.set i (some (.own (.ob o c ns (ts++[r])))))
 |_=>False
def sFAug (c:Str)(ns:List Str)(i j:Nat)(g:Int->Int->Int)(E:DE):DS:=λDe δ=>match δ[i]? with
 |some (some (.own (.ob o c' ns' ts)))=>c'=c/\ns'=ns/\match ts[j]? with
  |some (.fz (.int x))=>E δ λd=>match d with
   | .int y=>De.nx (δ.set i (some (.own (.ob o c ns (ts.set j (.fz (.int (g x y))))))))
   |_=>False
  |_=>False
 |_=>False
def sFApp (c:Str)(ns:List Str)(i j:Nat)(Eo:DO):DS:=λDe δ=>match δ[i]? with
 |some (some (.own (.ob o c' ns' ts)))=>c'=c/\ns'=ns/\match ts[j]? with
  |some (.nl us)=>us.length<1000000/\Eo δ λr=>De.nx (δ.set i (some (.own (.ob o c ns (ts.set j (.nl (us++[r])))))))
  |_=>False
 |_=>False
def sFPop (c:Str)(ns:List Str)(i j k:Nat):DS:=λDe δ=>match δ[i]? with
 |some (some (.own (.ob o c' ns' ts)))=>c'=c/\ns'=ns/\∃us d,ts[j]?=some (.nl (us++[.fz d]))/\De.nx ((δ.set i (some (.own (.ob o c ns (ts.set j (.nl us)))))).set k (some (.own (.fz d))))
 |_=>False
def sMeth (c:Str)(ns:List Str)(i n:Nat)(sp:DMo)(As:DA):DS:=λDe δ=>match δ[i]? with
 |some (some (.own (.ob o c' ns' ts)))=>c'=c/\ns'=ns/\As δ λds=>ds.length+1=n/\sp ts ds λts'=>De.nx (δ.set i (some (.own (.ob o c ns ts'))))
 |_=>False
def sMethPop (c:Str)(ns:List Str)(i j:Nat)(sp:DMo):DS:=λDe δ=>match δ[i]? with
 |some (some (.own (.ob o c' ns' ts)))=>c'=c/\ns'=ns/\∃us d,ts[j]?=some (.nl (us++[.fz d]))/\sp (ts.set j (.nl us)) [d] λts'=>De.nx (δ.set i (some (.own (.ob o c ns ts'))))
 |_=>False
def dMethP (c:Str)(ns:List Str)(n:Nat)(sp:DSp)(E:DE)(As:DA):DO:=λδ P=>E δ λd=>match d with
 | .obj c' ns' fs=>c'=c/\ns'=ns/\As δ λds=>ds.length+1=n/\sp (.obj c ns fs::ds) λr=>r.lf=true/\P r
 |_=>False
def dMake (c:Str)(ns:List Str)(n:Nat)(sp:DMo)(As:DA):DO:=λδ P=>As δ λds=>ds.length+1=n/\sp [] ds λts=>P (.ob none c ns ts)
def startM (N:List Str)(c:Str)(ns:List Str)(a:Addr)(ts:List OV)(ds:List D):Dst:=some (.own (.ob (some a) c ns ts))::(ds.map (λd=>some (.own (.fz d)))++List.replicate (N.length-(ds.length+1)) none)
section
theorem lk_zip:∀{ns:List Str} {vs:List V} {j:Nat},ns.Nodup->ns[j]?=some f->(ns.zip vs).lookup f=vs[j]?
 | [],_,_,_,h=>by simp at h
 |g::ns,[],j,_,_=>rfl
 |g::ns,v::vs,0,nd,h=>by
  simp at h
  subst h
  simp
 |g :: ns,v::vs,j+1,nd,h=>by
  have h':ns[j]?=some f:=h
  obtain⟨n1,n2⟩:=List.nodup_cons.mp nd
  have hne:(f==g)=false:=by
   rw[beq_eq_false_iff_ne]
   intro z
   exact n1 (by rw[<- z];exact List.mem_of_getElem? h')
  simp only[List.zip_cons_cons,List.lookup,hne]
  exact lk_zip n2 h'
theorem lk_zip_none:∀{ns:List Str} {vs:List V},f∉ns->(ns.zip vs).lookup f=none
 | [],_,_=>rfl
 |g::ns,[],_=>rfl
 |g :: ns,v::vs,h=>by
  have hne:(f==g)=false:=by
   rw[beq_eq_false_iff_ne]
   intro z
   exact h (by rw[z];exact List.mem_cons_self)
  simp only[List.zip_cons_cons,List.lookup,hne]
  exact lk_zip_none λz=>h (List.mem_cons_of_mem _ z)
theorem putF_set:∀{ns:List Str} {vs:List V} {j:Nat},ns.Nodup->ns[j]?=some f->j<vs.length->putF f u (ns.zip vs)=ns.zip (vs.set j u)
 | [],_,_,_,h,_=>by simp at h
 |g::ns,[],j,_,_,h=>by simp at h
 |g::ns,v::vs,0,nd,h,_=>by
  simp at h
  subst h
  simp[putF]
 |g::ns,v::vs,j+1,nd,h,hl=>by
  have h':ns[j]?=some f:=h
  obtain⟨n1,n2⟩:=List.nodup_cons.mp nd
  have hne:¬ g=f:=λz=>n1 (by rw[z];exact List.mem_of_getElem? h')
  simp only[List.zip_cons_cons,putF,if_neg hne,List.set_cons_succ]
  rw[putF_set n2 h' (by simpa using hl)]
theorem putF_new:∀{ns:List Str} {vs:List V},ns.Nodup->ns[vs.length]?=some f->putF f u (ns.zip vs)=ns.zip (vs++[u])
 | [],_,_,h=>by simp at h
 |g::ns,[],nd,h=>by
  simp at h
  subst h
  simp[putF]
 |g::ns,v::vs,nd,h=>by
  have h':ns[vs.length]?=some f:=h
  obtain⟨n1,n2⟩:=List.nodup_cons.mp nd
  have hne:¬ g=f:=λz=>n1 (by rw[z];exact List.mem_of_getElem? h')
  simp only[List.zip_cons_cons,putF,if_neg hne,List.cons_append]
  rw[putF_new n2 h']
theorem nd_mid {A1 B0 A2 B1:List Addr}(h:(A1++(B0++A2)).Nodup)(h1:B1.Nodup)(h2:∀b∈B1,b∈B0∨b∉A1++(B0++A2)):(A1++(B1++A2)).Nodup:=by
 obtain⟨m1,m2,m3⟩:=List.nodup_append.mp h
 obtain⟨q1,q2,q3⟩:=List.nodup_append.mp m2
 refine List.nodup_append.mpr ⟨m1,List.nodup_append.mpr ⟨h1,q2,λx hx y hy z=>?_⟩,λx hx y hy z=>?_⟩
 .rcases h2 x hx with y' |y'
  .exact q3 x y' y hy z
  .exact y' (by rw[z];simp[hy])
 .rcases List.mem_append.mp hy with y' |y'
  .rcases h2 y y' with w |w
   .exact m3 x hx y (by simp[w]) z
   .exact w (by rw[<- z];simp[hx])
  .exact m3 x hx y (by simp[y']) z
end
structure ClsV (K:Frag) (c:Str) (ns:List Str):Prop where
 ex:∃C,PySem.W.nsIn K mainGlobals c=some (some (.ref C))/\Cls K C/\(∀f∈ns,NoAttr K C f)
 nd:ns.Nodup
 few:ns.length<1000
structure MetAt (K:Frag) (c m q:Str) (st:Stmt) (f:Addr) (fd:FuncData):Prop where
 fn:Fun K m q st f fd
 cl:∃C,PySem.W.nsIn K mainGlobals c=some (some (.ref C))/\Cls K C/\Meth K C m f
structure CalM (P:Program) (w:World) (K:Frag) (mg:Str->Option Value) (base:Heap) (c m:Str) (k:Nat) (ps:List Str) (sp:Sp):Prop where
 ex:∃C f fd,PySem.W.nsIn K mainGlobals c=some (some (.ref C))/\Cls K C/\Meth K C m f/\FnOk P w K mg base CX0 k f fd ps sp/\Binds K fd ps []
structure MakAt (K:Frag) (mg:Str->Option Value) (c:Str) (f:Addr):Prop where
 cl:∃C,PySem.W.nsIn K mainGlobals c=some (some (.ref C))/\Mk K C f/\mg c=some (.ref C)
structure CalK (P:Program) (w:World) (K:Frag) (mg:Str->Option Value) (base:Heap) (c:Str) (k:Nat) (ps:List Str) (sp:Sp):Prop where
 ex:∃C f fd,PySem.W.nsIn K mainGlobals c=some (some (.ref C))/\Mk K C f/\mg c=some (.ref C)/\FnOk P w K mg base CX0 k f fd ps sp/\Binds K fd ps []
def tMethN (K:Frag)(c m:Str)(sp:Sp)(ta:TE)(t:TA):TE:=λY H Q=>∃C,PySem.W.nsIn K mainGlobals c=some (some (.ref C))/\tMeth C m sp [] E0 ta t Y H Q
def tMakeN (K:Frag)(c:Str)(sp:Sp)(t:TA):TE:=λY H Q=>∃C,PySem.W.nsIn K mainGlobals c=some (some (.ref C))/\tMake C sp [] E0 t Y H Q
section
variable {X:Cx}{c m:Str}{k:Nat}{ps:List Str}{sp:Sp}{o e:Expr}{es:List Expr}{ta:TE}{t:TA}{p pos apos:Pos}
theorem pe_metN (C:CalM X.prog X.w X.K X.mg X.base c m k ps sp)(hr:Room k X.A)(he:PE X o ta)(ha:PA X (e::es) t)
  (hst:starEach (e::es) X.env=(false,eval e X.env)::starEach es X.env:=by rfl) (hpl:(backTo pos (starEach es X.env)).any (·.1)=false:=by rfl)
  (ht:eval (.Call (.Attribute o m apos) (e::es) [] pos) X.env=(do
   let ov <- eval o X.env
   standAt apos.atName
   let (f,first) <- holding [ov] (getMethod ov m pl)
   callWith pos f first (backTo pos (starEach (e::es) X.env)) (backToKw pos (keywordEach [] X.env))):=by rfl):
  PE X (.Call (.Attribute o m apos) (e::es) [] pos) (tMethN X.K c m sp ta t):=by
 intro pins s Y H Q I ⟨C',hC',h⟩
 obtain⟨C,f,fd,hC,cl,hm,F,hb⟩:=C.ex
 rw[hC]at hC'
 cases hC'
 exact pe_meth he cl hm F hr hb .nil pass0 ha hst hpl ht pins s Y H Q I h
theorem pe_metN0 (C:CalM X.prog X.w X.K X.mg X.base c m k ps sp)(hr:Room k X.A)(he:PE X o ta)
  (ht:eval (.Call (.Attribute o m apos) [] [] pos) X.env=(do
   let ov <- eval o X.env
   standAt apos.atName
   let (f,first) <- holding [ov] (getMethod ov m pl)
   callWith pos f first (backTo pos (starEach [] X.env)) (backToKw pos (keywordEach [] X.env))):=by rfl):
  PE X (.Call (.Attribute o m apos) [] [] pos) (tMethN X.K c m sp ta tNil):=by
 intro pins s Y H Q I ⟨C',hC',h⟩
 obtain⟨C,f,fd,hC,cl,hm,F,hb⟩:=C.ex
 rw[hC]at hC'
 cases hC'
 exact pe_meth0 he cl hm F hr hb .nil pass0 (ht:=ht) pins s Y H Q I h
theorem pe_makN (C:CalK X.prog X.w X.K X.mg X.base c k ps sp)(hr:Room (k+1) X.A)(hg:Gl X c)(ha:PA X (e::es) t)
  (hdb:(c==("__debug__":Str))=false:=by decide) (he:starEach (e::es) X.env=(false,eval e X.env)::starEach es X.env:=by rfl) (hpl:(backTo pos (starEach es X.env)).any (·.1)=false:=by rfl):
  PE X (.Call (.Name c p) (e::es) [] pos) (tMakeN X.K c sp t):=by
 intro pins s Y H Q I ⟨C',hC',h⟩
 obtain⟨C,f,fd,hC,M,hm,F,hb⟩:=C.ex
 rw[hC]at hC'
 cases hC'
 exact pe_make M F hr hg hm hb .nil pass0 ha hdb he hpl pins s Y H Q I h
end
section
variable {K:Frag}{c f m:Str}{ns:List Str}{i j:Nat}{ta te:TE}{E:DE}{Eo:DO}
theorem sB_fld (CV:ClsV K c ns)(hf:ns[j]?=some f)(h:SimB K ta E): SimB K (tFld K ta f) (dFld c ns j E):=λF0 H0 F H Y δ P Q e w q=>h F0 H0 F H Y δ _ _ e w λd v F1 H1 w1 x1 r1=>by
 split at w1
 .obtain ⟨rfl,rfl,x,hx,w1⟩:=w1
  obtain⟨a,C,dx,vs,rfl,h0,h1,hl,h2⟩:=r1
  obtain⟨C',hC',cl,na⟩:=CV.ex
  rw[h0]at hC'
  cases hC'
  obtain⟨u,hu,ru⟩:=h2.get hx
  exact⟨a,C,dx,_,u,rfl,h1,cl,na f (List.mem_of_getElem? hf),by rw[lk_zip CV.nd hf];exact hu,q _ _ F1 H1 w1 x1 ru⟩
 .exact w1.elim
theorem ER.obj {A:Nat->List Addr}(e:ER K F0 H0 F H Y δ A)(hv:Y[i]?=some (some (.ref a)))(eA:A i=a::dx::B)
  (h0:PySem.W.nsIn K mainGlobals c=some (some (.ref C))) (ho:∀a',o=some a'->a=a') (h1:H' a=some (.ins C dx (ns.zip vs'))) (h2:H' dx=some (.own a)) (hl:ts'.length<=ns.length) (h3:Xa5 K F H' ts' vs' B') (nd:B'.Nodup)
  (hB:∀b∈B',b∈B∨(F b=none/\H0 b=none/\∀j,b∉A j)) (keep:∀b o,b∉A i->H b=some o->H' b=some o): EnvR K F0 H0 F H' Y (δ.set i (some (.own (.ob o c ns ts')))):=by
 have hnd:=e.nod i
 rw[eA]at hnd
 obtain⟨n1,n2⟩:=List.nodup_cons.mp hnd
 obtain⟨n3,n4⟩:=List.nodup_cons.mp n2
 have inA:∀b,b∈a::dx::B'->b∈A i∨(F b=none/\H0 b=none/\∀j,b∉A j):=λb hb=>by
  rw[eA]
  rcases List.mem_cons.mp hb with z |z
  .exact .inl (by simp[z])
  .rcases List.mem_cons.mp z with z |z
   .exact .inl (by simp[z])
   .rcases hB b z with y |y
    .exact .inl (by simp[y])
    .exact .inr y
 have notB:∀b,b∈A i->b∉B->b∉B':=λb hb hn z=>by
  rcases hB b z with y |y
  .exact hn y
  .exact y.2.2 i hb
 refine e.change i hv (t':=.ob o c ns ts') (B:=a::dx::B') ⟨a,C,dx,vs',B',rfl,rfl,h0,ho,h1,h2,hl,h3⟩ ?_ ?_ ?_ keep
 .refine List.nodup_cons.mpr ⟨λz=>?_,List.nodup_cons.mpr ⟨λz=>?_,nd⟩⟩
  .rcases List.mem_cons.mp z with z |z
   .exact n1 (by simp[z])
   .exact notB a (by simp[eA]) (λy=>n1 (by simp[y])) z
  .exact notB dx (by simp[eA]) n3 z
 .intro b hb
  rcases inA b hb with z |z
  .exact ⟨(e.new i b z).1,(e.new i b z).2.1⟩
  .exact ⟨z.1,z.2.1⟩
 .intro j hj b hb z
  rcases inA b hb with y |y
  .exact e.dis j i b hj z y
  .exact y.2.2 j z
theorem sS_fset (CV:ClsV K c ns)(hf:ns[j]?=some f)(h:SimO K te Eo):SimS K (sFld K (tVar i) te f) (sFSet c ns i j Eo):=λF0 H0 F H Y δ De En e l w=>by
 obtain⟨A,e⟩:=e
 unfold sFSet at w
 split at w
 .rename_i o c' ns' ts hs
  obtain⟨rfl,rfl,hj,w⟩:=w
  obtain⟨v,hv,a,C,dx,vs,B,rfl,eA,h0,ho,h1,h2,hl,h3⟩:=e.own i _ hs
  obtain⟨C',hC',cl,na⟩:=CV.ex
  rw[h0]at hC'
  cases hC'
  refine h F0 H0 F H Y δ _ _ ⟨A,e⟩ w λr u F1 H1 p x1 n=>?_
  obtain⟨C0,c1,c2,c3⟩:=n
  have e1:=e.on x1
  have hlen:=h3.length
  refine⟨_,hv,a,C,dx,_,rfl,x1.hh _ _ h1,cl,na f (List.mem_of_getElem? hf),?_,?_⟩
  .have:=CV.few
   rw[List.length_zip];lia
  rw[putF_set CV.nd hf (by lia)]
  have h31:Xa5 K F1 H1 ts vs B:=h3.frame x1.ff λb _ xs z=>x1.hh _ _ z
  obtain⟨v0,A1,B0,A2,f1,rfl,f3,f4⟩:=h31.focus (List.getElem?_eq_getElem hj)
  have hnd:=e.nod i
  rw[eA]at hnd
  obtain⟨n1,n2⟩:=List.nodup_cons.mp hnd
  obtain⟨n3,n4⟩:=List.nodup_cons.mp n2
  have hCA':∀j b,b∈C0->b∉A j:=λj b hb z=>by
   obtain⟨_,_,xs,q,_⟩:=e.new j b z
   rw[(c3 b hb).1]at q;cases q
  have hCA:=hCA' i
  have off:∀b,b∈A1++(B0++A2)->b≠a:=λb hb z=>n1 (by rw[<- z];exact List.mem_cons_of_mem _ hb)
  have sub:∀b,b∈A1++A2->b∈A1++(B0++A2):=λb hb=>by
   rcases List.mem_append.mp hb with z |z<;>simp[z]
  have f4':=f4 F1 (upd H1 a (.ins C dx (ns'.zip (vs.set j u)))) r u C0 (Same.refl _) (λb hb xs z=>Xax (off b (sub b hb)) z) (c1.frame (Same.refl _) λb hb xs z=>Xax (λy=>hCA b hb (by rw[eA,y];simp)) z)
  refine l.nx F1 _ Y _ (e1.obj hv eA h0 ho Xa0 (Xax (λz=>n1 (by rw[<- z];simp)) (x1.hh _ _ h2)) (by rw[List.length_set];exact hl) f4' (nd_mid n4 c2 λb hb=>.inr λz=>hCA b hb (by rw[eA];simp only[List.mem_cons];exact .inr (.inr z))) (λb hb=>?_) λb o' hb z=>Xax (λy=>hb (by rw[eA,y];simp)) z) p
  rcases List.mem_append.mp hb with z |z
  .exact .inl (by simp[z])
  .rcases List.mem_append.mp z with z |z
   .exact .inr ⟨(c3 b z).2,e.ext.hh.free (c3 b z).1,λj=>hCA' j b z⟩
   .exact .inl (by simp[z])
 .exact w.elim
theorem sS_fnew (CV:ClsV K c ns)(hf:ns[j]?=some f)(h:SimO K te Eo): SimS K (sFld K (tVar i) te f) (sFNew c ns i j Eo):=λF0 H0 F H Y δ De En e l w=>by
 obtain⟨A,e⟩:=e
 unfold sFNew at w
 split at w
 .rename_i o c' ns' ts hs
  obtain⟨rfl,rfl,hj,w⟩:=w
  obtain⟨v,hv,a,C,dx,vs,B,rfl,eA,h0,ho,h1,h2,hl,h3⟩:=e.own i _ hs
  obtain⟨C',hC',cl,na⟩:=CV.ex
  rw[h0]at hC'
  cases hC'
  refine h F0 H0 F H Y δ _ _ ⟨A,e⟩ w λr u F1 H1 p x1 n=>?_
  obtain⟨C0,c1,c2,c3⟩:=n
  have e1:=e.on x1
  have hlen:=h3.length
  refine⟨_,hv,a,C,dx,_,rfl,x1.hh _ _ h1,cl,na f (List.mem_of_getElem? hf),?_,?_⟩
  .have:=CV.few
   rw[List.length_zip];lia
  have hf':=hf
  rw[hj,hlen]at hf'
  rw[putF_new CV.nd hf']
  have h31:Xa5 K F1 H1 ts vs B:=h3.frame x1.ff λb _ xs z=>x1.hh _ _ z
  have hnd:=e.nod i
  rw[eA]at hnd
  obtain⟨n1,n2⟩:=List.nodup_cons.mp hnd
  obtain⟨n3,n4⟩:=List.nodup_cons.mp n2
  have hCA':∀j b,b∈C0->b∉A j:=λj b hb z=>by
   obtain⟨_,_,xs,q,_⟩:=e.new j b z
   rw[(c3 b hb).1]at q;cases q
  have hCA:=hCA' i
  have off:∀b,b∈B->b≠a:=λb hb z=>n1 (by rw[<- z];exact List.mem_cons_of_mem _ hb)
  have hlt:=(List.getElem?_eq_some_iff.mp hf').1
  have f4':Xa5 K F1 (upd H1 a (.ins C dx (ns'.zip (vs++[u])))) (ts++[r]) (vs++[u]) (B++C0):=Xa5.append (h31.frame (Same.refl _) λb hb xs z=>Xax (off b hb) z) (Xa5.one (c1.frame (Same.refl _) λb hb xs z=>Xax (λy=>hCA b hb (by rw[eA,y];simp)) z))
  refine l.nx F1 _ Y _ (e1.obj hv eA h0 ho Xa0 (Xax (λz=>n1 (by rw[<- z];simp)) (x1.hh _ _ h2)) (by rw[List.length_append,List.length_singleton];lia) f4' (List.nodup_append.mpr ⟨n4,c2,λx hx y hy z=>hCA y hy (by rw[eA,<- z];simp[hx])⟩) (λb hb=>?_) λb o' hb z=>Xax (λy=>hb (by rw[eA,y];simp)) z) p
  rcases List.mem_append.mp hb with z |z
  .exact .inl z
  .exact .inr ⟨(c3 b z).2,e.ext.hh.free (c3 b z).1,λj=>hCA' j b z⟩
 .exact w.elim
theorem sS_faug {g:Int->Int->Int}{rd:V->V->Hp->VK->Prop}(CV:ClsV K c ns)(hf:ns[j]?=some f)(hrd:∀x y H Q,Q (.int (g x y)) H->rd (.int x) (.int y) H Q)(h:SimB K te E): SimS K (sFldAug K (tVar i) te rd f) (sFAug c ns i j g E):=λF0 H0 F H Y δ De En e l w=>by
 obtain⟨A,e⟩:=e
 unfold sFAug at w
 split at w
 .rename_i o c' ns' ts hs
  obtain⟨rfl,rfl,w⟩:=w
  obtain⟨x,hx,w⟩:∃x,ts[j]?=some (.fz (.int x))/\E δ λd=>match d with
   | .int y=>De.nx (δ.set i (some (.own (.ob o c' ns' (ts.set j (.fz (.int (g x y))))))))
   |_=>False:=by
   split at w
   .exact ⟨_,by assumption,w⟩
   .exact w.elim
  obtain⟨v,hv,a,C,dx,vs,B,rfl,eA,h0,ho,h1,h2,hl,h3⟩:=e.own i _ hs
  obtain⟨C',hC',cl,na⟩:=CV.ex
  rw[h0]at hC'
  cases hC'
  obtain⟨v0,A1,B0,A2,f1,eB,⟨f3,f3'⟩,f4⟩:=h3.focus hx
  subst f3
  cases (show v0=V.int x from f3')
  refine⟨_,hv,a,C,dx,_,_,rfl,h1,cl,na f (List.mem_of_getElem? hf),(by rw[lk_zip CV.nd hf];exact f1),?_⟩
  refine h F0 H0 F H Y δ _ _ ⟨A,e⟩ w λd u F1 H1 p x1 ru=>?_
  split at p
  .rename_i y
   cases (show u=V.int y from ru)
   have e1:=e.on x1
   refine hrd _ _ _ _ ⟨dx,_,x1.hh _ _ h1,?_,?_⟩
   .have:=CV.few
    rw[List.length_zip];lia
   rw[putF_set CV.nd hf (List.getElem?_eq_some_iff.mp f1).1]
   have hnd:=e.nod i
   rw[eA]at hnd
   obtain⟨n1,n2⟩:=List.nodup_cons.mp hnd
   obtain⟨n3,n4⟩:=List.nodup_cons.mp n2
   subst eB
   have f4':=f4 F1 (upd H1 a (.ins C dx (ns'.zip (vs.set j (.int (g x y)))))) (.fz (.int (g x y))) (.int (g x y)) [] x1.ff (λb hb xs z=>Xax (λq=>n1 (by rw[<- q];exact List.mem_cons_of_mem _ hb)) (x1.hh _ _ z)) ⟨rfl,rfl⟩
   exact l.nx F1 _ Y _ (e1.obj hv eA h0 ho Xa0 (Xax (λz=>n1 (by rw[<- z];simp)) (x1.hh _ _ h2)) (by rw[List.length_set];exact hl) f4' n4 (λb hb=>.inl hb) λb o' hb z=>Xax (λy=>hb (by rw[eA,y];simp)) z) p
  .exact p.elim
 .exact w.elim
theorem sS_fapp (CV:ClsV K c ns)(hf:ns[j]?=some f)(h:SimO K te Eo):SimS K (tDrop (tBM K "list" rAppend (tFld K (tVar i) f) (tCons te tNil))) (sFApp c ns i j Eo):=λF0 H0 F H Y δ De En e l w=>by
 obtain⟨A,e⟩:=e
 unfold sFApp at w
 split at w
 .rename_i o c' ns' ts hs
  obtain⟨rfl,rfl,w⟩:=w
  obtain⟨us,hx,hus,w⟩:∃us,ts[j]?=some (.nl us)/\us.length<1000000/\Eo δ λr=>De.nx (δ.set i (some (.own (.ob o c' ns' (ts.set j (.nl (us++[r]))))))):=by
   split at w
   .exact ⟨_,by assumption,w⟩
   .exact w.elim
  obtain⟨v,hv,a,C,dx,vs,B,rfl,eA,h0,ho,h1,h2,hl,h3⟩:=e.own i _ hs
  obtain⟨C',hC',cl,na⟩:=CV.ex
  rw[h0]at hC'
  cases hC'
  obtain⟨v0,A1,B0,A2,f1,rfl,f3,f4⟩:=h3.focus hx
  obtain⟨b0,ws,B1,rfl,rfl,hc,hws⟩:=f3
  refine⟨_,hv,a,C,dx,_,.ref b0,rfl,h1,cl,na f (List.mem_of_getElem? hf),(by rw[lk_zip CV.nd hf];exact f1),.inl ⟨rfl,_,SqL.of hc⟩,?_⟩
  refine h F0 H0 F H Y δ _ _ ⟨A,e⟩ w λr u F1 H1 p x1 n=>?_
  obtain⟨C0,c1,c2,c3⟩:=n
  have e1:=e.on x1
  have hwl:=hws.length
  refine⟨b0,ws,u,rfl,rfl,x1.hh _ _ hc,sz_lt (by lia),?_⟩
  have hnd:=e.nod i
  rw[eA]at hnd
  obtain⟨n1,n2⟩:=List.nodup_cons.mp hnd
  obtain⟨n3,n4⟩:=List.nodup_cons.mp n2
  have hCA':∀j b,b∈C0->b∉A j:=λj b hb z=>by
   obtain⟨_,_,xs,q,_⟩:=e.new j b z
   rw[(c3 b hb).1]at q;cases q
  have hbA:b0∈A i:=by rw[eA];simp
  obtain⟨m1,m2,m3⟩:=List.nodup_append.mp n4
  obtain⟨q1,q2,q3⟩:=List.nodup_append.mp m2
  obtain⟨s1,s2⟩:=List.nodup_cons.mp q1
  have off:∀b∈A1++A2,b≠b0:=λb hb z=>by
   subst z
   rcases List.mem_append.mp hb with y |y
   .exact m3 b y b (by simp) rfl
   .exact q3 b (by simp) b y rfl
  have hab:a≠b0:=λz=>n1 (by rw[z];simp)
  have hdb:dx≠b0:=λz=>n3 (by rw[z];simp)
  have f4':=f4 F1 (upd H1 b0 (.lst (ws++[u]))) (.nl (us++[r])) (.ref b0) (b0::(B1++C0)) x1.ff (λb hb xs z=>Xax (off b hb) (x1.hh _ _ z))
   ⟨b0,ws++[u],B1++C0,rfl,rfl,Xa0,Xa5.append (hws.frame x1.ff λb hb xs z=>Xax (λy=>s1 (by rw[<- y];exact hb)) (x1.hh _ _ z)) (Xa5.one (c1.frame (Same.refl _) λb hb xs z=>Xax (λy=>hCA' i b hb (by rw[y];exact hbA)) z))⟩
  rw[set_self_of f1]at f4'
  refine l.nx F1 _ Y _ (e1.obj hv eA h0 ho (Xax hab (x1.hh _ _ h1)) (Xax hdb (x1.hh _ _ h2)) (by rw[List.length_set];exact hl) f4' (nd_mid n4 ?_ λb hb=>?_) (λb hb=>?_) λb o' hb z=>Xax (λy=>hb (by rw[y];exact hbA)) z) p
  .refine List.nodup_cons.mpr ⟨λz=>?_,List.nodup_append.mpr ⟨s2,c2,λx hx y hy z=>hCA' i y hy (by rw[eA,<- z];simp[hx])⟩⟩
   rcases List.mem_append.mp z with y |y
   .exact s1 y
   .exact hCA' i b0 y hbA
  .rcases List.mem_cons.mp hb with y |y
   .exact .inl (by simp[y])
   .rcases List.mem_append.mp y with y |y
    .exact .inl (by simp[y])
    .exact .inr λz=>hCA' i b y (by rw[eA];simp only[List.mem_cons];exact .inr (.inr z))
  .simp only[List.mem_append,List.mem_cons]at hb
   rcases hb with z | (z |z |z) |z
   .exact .inl (by simp[z])
   .exact .inl (by simp[z])
   .exact .inl (by simp[z])
   .exact .inr ⟨(c3 b z).2,e.ext.hh.free (c3 b z).1,λj=>hCA' j b z⟩
   .exact .inl (by simp[z])
 .exact w.elim
theorem ER.fpop {A:Nat->List Addr}(e:ER K F0 H0 F H Y δ A)(CV:ClsV K c ns)(hf:ns[j]?=some f)(hs:δ[i]?=some (some (.own (.ob o c ns ts))))(hx:ts[j]?=some (.nl (us++[.fz d]))):
  ∃a b0 ws y C dx fs,Y[i]?=some (some (.ref a))/\H a=some (.ins C dx fs)/\PySem.W.nsIn K mainGlobals c=some (some (.ref C))/\Cls K C/\NoAttr K C f/\fs.lookup f=some (.ref b0)/\H b0=some (.lst ws)/\ws[ws.length-1]?=some y/\Rep K F d y/\(upd H b0 (.lst ws.dropLast)) a=some (.ins C dx fs)/\
   EnvR K F0 H0 F (upd H b0 (.lst ws.dropLast)) Y (δ.set i (some (.own (.ob o c ns (ts.set j (.nl us)))))):=by
 obtain⟨v,hv,a,C,dx,vs,B,rfl,eA,h0,ho,h1,h2,hl,h3⟩:=e.own i _ hs
 obtain⟨C',hC',cl,na⟩:=CV.ex
 rw[h0]at hC'
 cases hC'
 obtain⟨v0,A1,B0,A2,f1,rfl,f3,f4⟩:=h3.focus hx
 obtain⟨b0,ws,B1,rfl,rfl,hc,hws⟩:=f3
 obtain⟨ws1,y,rfl,B2,hw1,hwy,eB⟩:∃ws1 y,ws=ws1++[y]/\∃B2,Xa5 K F H us ws1 B2/\Rep K F d y/\B1=B2:=by
  clear f4 h3 hx eA hc f1
  induction us generalizing ws B1 with
  |nil=>
   obtain⟨v,r,B,C,rfl,rfl,g1,g2,g3⟩:=hws
   subst g2 g3
   exact⟨[],v,rfl,[],⟨rfl,rfl⟩,g1.2,by rw[g1.1];rfl⟩
  |cons t us ih=>
   obtain⟨v,r,B,C,rfl,rfl,g1,g2⟩:=hws
   obtain⟨ws1,y,rfl,B2,k1,k2,rfl⟩:=ih _ _ g2
   exact⟨v::ws1,y,rfl,B++C,⟨v,ws1,B,C,rfl,rfl,g1,k1⟩,k2,rfl⟩
 subst eB
 have hnd:=e.nod i
 rw[eA]at hnd
 obtain⟨n1,n2⟩:=List.nodup_cons.mp hnd
 obtain⟨n3,n4⟩:=List.nodup_cons.mp n2
 have hbA:b0∈A i:=by rw[eA];simp
 obtain⟨m1,m2,m3⟩:=List.nodup_append.mp n4
 obtain⟨q1,q2,q3⟩:=List.nodup_append.mp m2
 obtain⟨s1,s2⟩:=List.nodup_cons.mp q1
 have off:∀b∈A1++A2,b≠b0:=λb hb z=>by
  subst z
  rcases List.mem_append.mp hb with y |y
  .exact m3 b y b (by simp) rfl
  .exact q3 b (by simp) b y rfl
 have hab:a≠b0:=λz=>n1 (by rw[z];simp)
 have hdb:dx≠b0:=λz=>n3 (by rw[z];simp)
 have edl:(ws1++[y]).dropLast=ws1:=by simp
 have f4':=f4 F (upd H b0 (.lst (ws1++[y]).dropLast)) (.nl us) (.ref b0) (b0::B1) (Same.refl _) (λb hb xs z=>Xax (off b hb) z) ⟨b0,(ws1++[y]).dropLast,B1,rfl,rfl,Xa0,by
  rw[edl]
  exact hw1.frame (Same.refl _) λb hb xs z=>Xax (λy=>s1 (by rw[<- y];exact hb)) z⟩
 rw[set_self_of f1]at f4'
 refine⟨a,b0,ws1++[y],y,C,dx,_,hv,h1,h0,cl,na f (List.mem_of_getElem? hf),(by rw[lk_zip CV.nd hf];exact f1),hc,by simp,hwy,Xax hab h1,?_⟩
 exact e.obj hv eA h0 ho (Xax hab h1) (Xax hdb h2) (by rw[List.length_set];exact hl) f4' n4 (λb hb=>.inl hb) λb o' hb z=>Xax (λy=>hb (by rw[y];exact hbA)) z
theorem sS_fpop (CV:ClsV K c ns)(hf:ns[j]?=some f): SimS K (tAsg (tBM0 K "list" rPop (tFld K (tVar i) f)) (gName k)) (sFPop c ns i j k):=λF0 H0 F H Y δ De En e l w=>by
 obtain⟨A,e⟩:=e
 unfold sFPop at w
 split at w
 .rename_i o c' ns' ts hs
  obtain⟨rfl,rfl,us,d,hx,w⟩:=w
  obtain⟨a,b0,ws,y,C,dx,fs,hv,h1,h0,cl,na,hl,hc,hy,ry,_,e'⟩:=e.fpop CV hf hs hx
  refine⟨_,hv,a,C,dx,fs,.ref b0,rfl,h1,cl,na,hl,.inl ⟨rfl,_,SqL.of hc⟩,b0,ws,y,rfl,rfl,hc,hy,?_⟩
  exact l.nx F _ _ _ (e'.put (Ext.refl e'.ext.fh) k (.fz ry)) w
 .exact w.elim
def spM (K:Frag)(n:Nat)(c:Str)(ns:List Str)(sp:DMo):Sp:=spL n λvs H Q=>∃F a C dx ts vs0 B rest ds P,vs=V.ref a::rest/\PySem.W.nsIn K mainGlobals c=some (some (.ref C))/\Same F H/\H a=some (.ins C dx (ns.zip vs0))/\H dx=some (.own a)/\ts.length<=ns.length/\Xa5 K F H ts vs0 B/\
 (a::dx::B).Nodup/\(∀b∈a::dx::B,F b=none)/\Reps K F ds rest/\sp ts ds P/\
 ∀ts' F' H' dx' vs' B',P ts'->Same F F'->Same F' H'->(∀b o,b∉a::dx::B->H b=some o->H' b=some o)->(∀b o,F b=none->H b=some o->imm o=false->b∉a::dx::B->F' b=none)->H' a=some (.ins C dx' (ns.zip vs'))->H' dx'=some (.own a)->ts'.length<=ns.length->Xa5 K F' H' ts' vs' B'->
  (a::dx'::B').Nodup->(∀b∈a::dx'::B',F' b=none/\(b∈a::dx::B∨H b=none))->Q .non H'
theorem spM_of (e:EnvR K F0 H0 F H Y δ)(hs:δ[i]?=some (some (.own (.ob o c ns ts))))(hσ:Y[i]?=some (some (.ref p)))(l:Lk K F0 H0 De En)(hn:ds.length+1=n)
  (r:Reps K F ds us) (hsp:sp ts ds λts'=>De.nx (δ.set i (some (.own (.ob o c ns ts'))))): spM K n c ns sp (.ref p::us) H (λ_ H2=>En.nx Y H2) E0:=by
 obtain⟨A,e⟩:=e
 obtain⟨v,hv,a,C,dx,vs,B,rfl,eA,h0,ho,h1,h2,hl,h3⟩:=e.own i _ hs
 rw[hσ]at hv
 cases hv
 have hnd:=e.nod i
 rw[eA]at hnd
 have hlt:i<δ.length:=(List.getElem?_eq_some_iff.mp hs).1
 refine⟨by rw[List.length_cons,<- r.length];exact hn,F,p,C,dx,ts,vs,B,us,ds,_,rfl,h0,e.ext.fh,h1,h2,hl,h3,hnd,λb hb=>(e.new i b (by rw[eA];exact hb)).1,r,hsp,?_⟩
 intro ts' F' H' dx' vs' B' pt sF sH keep nofz hp' hd' hl' hB' nd' nw'
 refine l.nx F' H' Y _ ⟨λj=>if j=i then p::dx'::B' else A j,?_⟩ pt
 refine⟨by simp[e.len],⟨e.ext.ff.trans sF,λb o h=>?_,sH,λb o h1 h2 h3=>?_⟩,λj t hj=>?_,λj d hj=>?_,λj=>?_,λj k b hjk h1 h2=>?_,λj b hb=>?_⟩
 .exact keep b o (λz=>by rw[(e.new i b (by rw[eA];exact z)).2.1]at h;cases h) (e.ext.hh _ _ h)
 .exact nofz b o (e.ext.no b o h1 h2 h3) (e.ext.hh _ _ h2) h3 (λz=>by rw[(e.new i b (by rw[eA];exact z)).2.1]at h2;cases h2)
 .by_cases z:j=i
  .subst z
   rw[if_pos rfl]
   rw[List.getElem?_set_self hlt]at hj
   cases hj
   exact⟨_,hσ,p,C,dx',vs',B',rfl,rfl,h0,ho,hp',hd',hl',hB'⟩
  .rw [if_neg z]
   rw[List.getElem?_set_ne (Ne.symm z)]at hj
   obtain⟨u,h1,h2⟩:=e.own j t hj
   exact⟨u,h1,h2.frame sF λb hb xs q=>keep b _ (λy=>e.dis j i b z hb (by rw[eA];exact y)) q⟩
 .by_cases z:j=i
  .subst z
   rw[List.getElem?_set_self hlt]at hj
   cases hj
  .rw [List.getElem?_set_ne (Ne.symm z)]at hj
   exact e.bw j d hj
 .split
  .exact nd'
  .exact e.nod j
 .have key:∀k,k≠i->b∈p::dx'::B'->b∈A k->False:=λk hk z1 z2=>by
   rcases (nw' b z1).2 with y |y
   .exact e.dis k i b hk z2 (by rw[eA];exact y)
   .obtain ⟨_,_,xs,q,_⟩:=e.new k b z2
    rw[y]at q;cases q
  split at h1
  .split at h2
   .lia
   .rename_i z1 z2
    exact key k z2 h1 h2
  .split at h2
   .rename_i z1 z2
    exact key j z1 h2 h1
   .exact e.dis j k b hjk h1 h2
 .split at hb
  .have hh:H0 b=none:=by
    rcases (nw' b hb).2 with y |y
    .exact (e.new i b (by rw[eA];exact y)).2.1
    .exact e.ext.hh.free y
   refine⟨(nw' b hb).1,hh,?_⟩
   rcases List.mem_cons.mp hb with y |y
   .rw [y];exact⟨_,hp',rfl⟩
   .rcases List.mem_cons.mp y with y |y
    .rw [y];exact⟨_,hd',rfl⟩
    .exact hB'.isl b y
  .rename_i z
   obtain⟨h1,h2,xs,h3,himm⟩:=e.new j b hb
   have hni:b∉p::dx::B:=λy=>e.dis j i b z hb (by rw[eA];exact y)
   exact⟨nofz b _ h1 h3 himm hni,h2,xs,keep b _ hni h3,himm⟩
theorem sS_meth (CV:ClsV K c ns)(hm:m∉ns)(ha:SimAF K a As): SimS K (tDrop (tMethN K c m (spM K n c ns sp) (tVar i) a)) (sMeth c ns i n sp As):=λF0 H0 F H Y δ De En e l w=>by
 unfold sMeth at w
 split at w
 .rename_i o c' ns' ts hs
  obtain⟨rfl,rfl,w⟩:=w
  obtain⟨A,e⟩:=e
  obtain⟨v,hv,p,C,dx,vs,B,rfl,eA,h0,ho,h1,h2,hl,h3⟩:=e.own i _ hs
  refine⟨C,h0,_,hv,p,dx,_,rfl,h1,lk_zip_none hm,?_⟩
  refine ha F0 H0 F H Y δ _ _ ⟨A,e⟩ w λds us F1 H1 w1 x1 r1=>?_
  rw[List.append_nil]
  exact spM_of ⟨A,e.on x1⟩ hs hv l w1.1 r1 w1.2
 .exact w.elim
theorem sS_methPop (CV:ClsV K c ns)(hf:ns[j]?=some f)(hm:m∉ns): SimS K (tDrop (tMethN K c m (spM K 2 c ns sp) (tVar i) (tCons (tBM0 K "list" rPop (tFld K (tVar i) f)) tNil))) (sMethPop c ns i j sp):=λF0 H0 F H Y δ De En e l w=>by
 unfold sMethPop at w
 split at w
 .rename_i o c' ns' ts hs
  obtain⟨rfl,rfl,us,d,hx,w⟩:=w
  obtain⟨A,e⟩:=e
  obtain⟨v,hv',p,C',dx',vs,B,rfl,eA,h0',ho,h1',h2',hl',h3⟩:=e.own i _ hs
  obtain⟨a,b0,ws,y,C,dx,fs,hv,h1,h0,cl,na,hl,hc,hy,ry,h1b,e'⟩:=e.fpop CV hf hs hx
  rw[hv']at hv
  cases hv
  refine⟨C',h0',_,hv',p,dx',_,rfl,h1',lk_zip_none hm,?_⟩
  refine⟨_,hv',p,C,dx,fs,.ref b0,rfl,h1,cl,na,hl,.inl ⟨rfl,_,SqL.of hc⟩,b0,ws,y,rfl,rfl,hc,hy,?_⟩
  have hlt:i<δ.length:=(List.getElem?_eq_some_iff.mp hs).1
  exact spM_of (δ:=δ.set i (some (.own (.ob o c' ns' (ts.set j (.nl us)))))) e' (List.getElem?_set_self hlt) hv' l (ds:=[d]) rfl (show Reps K F [d] [y] from⟨y,[],rfl,ry,rfl⟩) (by simpa only[List.set_set] using w)
 .exact w.elim
theorem sO_methP (CV:ClsV K c ns)(hm:m∉ns)(h:SimB K te E)(ha:SimAB K a As): SimO K (tMethN K c m (spV K n sp) te a) (dMethP c ns n sp E As):=λF0 H0 F H Y δ P Q e w q=>by
 have key:(∃C,PySem.W.nsIn K mainGlobals c=some (some (.ref C)))->tMethN K c m (spV K n sp) te a Y H Q:=λ⟨C,hC⟩=>by
  refine⟨C,hC,?_⟩
  refine h F0 H0 F H Y δ _ _ e w λd v F1 H1 w1 x1 r1=>?_
  split at w1
  .rename_i c' ns' fs
   obtain⟨rfl,rfl,w1⟩:=w1
   have r1':=r1
   obtain⟨p,C',dx,vs,rfl,h0,h1,hl,h2⟩:=r1
   rw[hC]at h0
   cases h0
   refine⟨p,dx,_,rfl,h1,lk_zip_none hm,?_⟩
   refine ha F0 H0 F1 H1 Y δ _ _ (e.on x1) w1 λds us F2 H2 w2 x2 r2=>?_
   rw[List.append_nil]
   have x12:=x1.trans x2
   refine⟨by rw[List.length_cons,<- r2.length];exact w2.1,H2,.obj c' ns' fs::ds,_,Same.refl _,⟨.ref p,us,rfl,r1'.mono x2.hh,r2⟩,w2.2,λr v F' H' p x' r'=>?_⟩
   have s1:Same F2 F':=x2.fh.trans x'.ff
   have x3:=frzT_ext s1
   obtain⟨A,a1,a2,a3⟩:=r'
   refine q r v (frzT F2 F') H' p.2 (x12.trans ⟨x3.ff,x'.hh,x3.fh.trans x'.fh,λb o z1 z2 z3=>?_⟩) ⟨A,a1.lf s1 p.1,a2,λb hb=>⟨x12.hh.free (a3 b hb).1,x3.fh.free (a3 b hb).2⟩⟩
   exact x3.no b o z1 (x'.ff _ _ z2) z3
  .exact w1.elim
 exact key ⟨_,CV.ex.choose_spec.1⟩
theorem sO_make (CV:ClsV K c ns)(ha:SimAF K a As): SimO K (tMakeN K c (spM K n c ns sp) a) (dMake c ns n sp As):=λF0 H0 F H Y δ P Q e w q=>by
 obtain⟨C,hC,_⟩:=CV.ex
 refine⟨C,hC,ha F0 H0 F H Y δ _ _ e w λds us F1 H1 w1 x1 r1=>λx dx hx hd hne=>?_⟩
 rw[List.append_nil]
 have s0:Same H1 (upd (upd H1 dx (.own x)) x (.ins C dx [])):=λb o z=>Xax (λy=>by rw[y,hx]at z;cases z) (Xax (λy=>by rw[y,hd]at z;cases z) z)
 refine⟨by rw[List.length_cons,<- r1.length];exact w1.1,F1,x,C,dx,[],[],[],us,ds,_,rfl,hC,x1.fh.trans s0,(by rw[List.zip_nil_right];exact Xa0),Xax hne Xa0,Nat.zero_le _,⟨rfl,rfl⟩,?_,λb hb=>?_,r1,w1.2,?_⟩
 .simp only[List.nodup_cons,List.mem_cons,List.not_mem_nil,or_false,not_false_eq_true,List.nodup_nil,and_true]
  exact λz=>hne z.symm
 .rcases List.mem_cons.mp hb with z |z
  .rw [z];exact x1.fh.free hx
  .rw [List.mem_singleton.mp z];exact x1.fh.free hd
 intro ts' F' H' dx' vs' B' pt sF sH keep nofz hp' hd' hl' hB' nd' nw'
 have s1:∀b o,H1 b=some o->b∉x::dx::([]:List Addr):=λb o z y=>by
  rcases List.mem_cons.mp y with y |y
  .rw [y,hx]at z;cases z
  .rw [List.mem_singleton.mp y,hd]at z;cases z
 refine⟨rfl,q _ _ F' H' pt (x1.trans ⟨sF,λb o z=>keep b o (s1 b o z) (s0 _ _ z),sH,λb o z1 z2 z3=>nofz b o z1 (s0 _ _ z2) z3 (s1 b o z2)⟩) ⟨x::dx'::B',⟨x,C,dx',vs',B',rfl,rfl,hC,(λ_ z=>by cases z),hp',hd',hl',hB'⟩,nd',λb hb=>⟨?_,(nw' b hb).1⟩⟩⟩
 rcases (nw' b hb).2 with y |y
 .rcases List.mem_cons.mp y with y |y
  .rw [y];exact x1.hh.free hx
  .rw [List.mem_singleton.mp y];exact x1.hh.free hd
 .exact x1.hh.free (s0.free y)
end
section
variable {P:Program}{w:World}{K:Frag}{mg:Str->Option Value}{base:Heap}{c m q:Str}{ns:List Str}{st:Stmt}{f:Addr}{fd:FuncData}{N ps:List Str}{k n:Nat}
theorem okM_of (Fn:Fun K m q st f fd)(S:FnScope N ps (Xac st))(hn:n=ps.length)
  (hbody:∀(cdv:Value) (A:Around) (outer:List Env) (s:Shared) (H:Hp) (E:XK),Room k (A.deeper (envOfC q (Xac st) s.heap.objs.size f cdv))->
   ∃t T,PSs (cxOf CX0 P w K mg base N q (Xac st) f cdv A outer s H E).nox (Xa4 st) t/\SimS K t T/\∀(a:Addr) ts ds Pr,sp ts ds Pr->T {nx:=λδ=>∃ts',δ[0]?=some (some (.own (.ob (some a) c ns ts')))/\Pr ts',rt:=λ_=>False} (startM N c ns a ts ds)):
  FnOk P w K mg base CX0 (k+1) f fd ps (spM K n c ns sp):=
 Fn.ok S (λvs H Q E h=>by rw[<- hn];exact h.1) λcdv A outer s H vs Q E hr h=>by
  obtain⟨_,F,a,C,dx,ts,vs0,B,rest,ds,Pr,rfl,hC,hs,ha,hd,hlen,hB,hnd,hnf,hr',hsp,hq⟩:=h
  obtain⟨t,T,h1,h2,h3⟩:=hbody cdv A outer s H E hr
  have hl:=hr'.length
  have er : ER K F (λb=>if b∈a::dx::B then none else H b) F H (start N (V.ref a::rest)) (startM N c ns a ts ds) (λj=>if j=0 then a::dx::B else []):=by
   refine⟨by simp[start,startM,hl],⟨Same.refl _,λb o z=>?_,hs,λ_ _ z _ _=>z⟩,λi t hi=>?_,λi d hi=>?_,λj=>?_,λj k b hjk y1 y2=>?_,λj b hb=>?_⟩
   .split at z
    .cases z
    .exact z
   .unfold startM at hi
    cases i with
    |zero=>
     simp at hi
     subst hi
     exact⟨.ref a,rfl,a,C,dx,vs0,B,rfl,rfl,hC,(λ_ z=>Option.some.inj z),ha,hd,hlen,hB⟩
    |succ i=>
     rw[List.getElem?_cons_succ]at hi
     by_cases z:i<ds.length
     .rw [List.getElem?_append_left (by simpa using z),List.getElem?_map,List.getElem?_eq_getElem z]at hi
      simp at hi
      subst hi
      obtain⟨v,g1,g2⟩:=hr'.get (List.getElem?_eq_getElem z)
      refine⟨v,?_,rfl,g2⟩
      unfold start
      rw[List.map_cons,List.cons_append,List.getElem?_cons_succ,List.getElem?_append_left (by simp;lia),List.getElem?_map,g1]
      rfl
     .rw [List.getElem?_append_right (by simpa using z)]at hi
      have:=List.mem_of_getElem? hi
      rw[List.mem_replicate]at this
      cases this.2
   .unfold startM at hi
    cases i with
    |zero=>simp at hi
    |succ i=>
     rw[List.getElem?_cons_succ]at hi
     by_cases z:i<ds.length
     .rw [List.getElem?_append_left (by simpa using z),List.getElem?_map]at hi
      simp at hi
     .rw [List.getElem?_append_right (by simpa using z)]at hi
      have:=List.mem_of_getElem? hi
      rw[List.mem_replicate]at this
      cases this.2
   .split
    .exact hnd
    .exact List.nodup_nil
   .split at y1
    .split at y2
     .lia
     .cases y2
    .cases y1
   .split at hb
    .refine ⟨hnf b hb,if_pos hb,?_⟩
     rcases List.mem_cons.mp hb with y |y
     .rw [y];exact⟨_,ha,rfl⟩
     .rcases List.mem_cons.mp y with y |y
      .rw [y];exact⟨_,hd,rfl⟩
      .exact hB.isl b y
    .cases hb
  refine⟨t,h1,h2 F _ F H (start N (V.ref a::rest)) (startM N c ns a ts ds) {nx:=λδ=>∃ts',δ[0]?=some (some (.own (.ob (some a) c ns ts')))/\Pr ts',rt:=λ_=>False} _ ⟨_,er⟩ ⟨λF' H' Y δ e p=>?_,λ_ _ _ _ _ z=>z.elim,λ_ _ _ _ _ z=>z.elim,λ_ _ _ _ _ _ z=>z.elim⟩ (h3 a ts ds Pr hsp)⟩
  obtain⟨A',e⟩:=e
  obtain⟨ts',h0,hp⟩:=p
  obtain⟨v,hv,a',C',dx',vs',B',rfl,eA,g0,go,g1,g2,g3,g4⟩:=e.own 0 _ h0
  obtain rfl:=go a rfl
  rw[hC]at g0
  cases g0
  have hn':=e.nod 0
  rw[eA]at hn'
  refine hq ts' F' H' dx' vs' B' hp e.ext.ff e.ext.fh (λb o y z=>?_) (λb o y1 y2 y3 y4=>?_) g1 g2 g3 g4 hn' (λb hb=>?_)
  .exact e.ext.hh b o (by rw[if_neg y];exact z)
  .exact e.ext.no b o y1 (by rw[if_neg y4];exact y2) y3
  .obtain ⟨z1,z2,_⟩:=e.new 0 b (by rw[eA];exact hb)
   refine⟨z1,?_⟩
   by_cases q:b∈a'::dx::B
   .exact .inl q
   .rw [if_neg q]at z2;exact .inr z2
theorem CalM.of (Df:MetAt K c m q st f fd)(S:FnScope N ps (Xac st))
  (hb:∀(kV doc pm:Value) (an:Option Addr) (cdv ct:Value) (us:List Value),us.length=ps.length->bindArgs (PySem.W.fnOf m q (defArgs st) (Xa4 st) (Xac st) .none kV doc pm an cdv ct) ⟨us,[]⟩=pure (ps.zip us)) (hn:n=ps.length)
  (hbody:∀(cdv:Value) (A:Around) (outer:List Env) (s:Shared) (H:Hp) (E:XK),Room k (A.deeper (envOfC q (Xac st) s.heap.objs.size f cdv))->
   ∃t T,PSs (cxOf CX0 P w K mg base N q (Xac st) f cdv A outer s H E).nox (Xa4 st) t/\SimS K t T/\∀(a:Addr) ts ds Pr,sp ts ds Pr->T {nx:=λδ=>∃ts',δ[0]?=some (some (.own (.ob (some a) c ns ts')))/\Pr ts',rt:=λ_=>False} (startM N c ns a ts ds)):
  CalM P w K mg base c m (k+1) ps (spM K n c ns sp):=by
 obtain⟨C,hC,cl,hm⟩:=Df.cl
 exact⟨C,f,fd,hC,cl,hm,okM_of Df.fn S hn hbody,Df.fn.binds hb⟩
theorem CalK.of (Df:Fun K m q st f fd)(Mf:MakAt K mg c f)(S:FnScope N ps (Xac st))
  (hb:∀(kV doc pm:Value) (an:Option Addr) (cdv ct:Value) (us:List Value),us.length=ps.length->bindArgs (PySem.W.fnOf m q (defArgs st) (Xa4 st) (Xac st) .none kV doc pm an cdv ct) ⟨us,[]⟩=pure (ps.zip us)) (hn:n=ps.length)
  (hbody:∀(cdv:Value) (A:Around) (outer:List Env) (s:Shared) (H:Hp) (E:XK),Room k (A.deeper (envOfC q (Xac st) s.heap.objs.size f cdv))->
   ∃t T,PSs (cxOf CX0 P w K mg base N q (Xac st) f cdv A outer s H E).nox (Xa4 st) t/\SimS K t T/\∀(a:Addr) ts ds Pr,sp ts ds Pr->T {nx:=λδ=>∃ts',δ[0]?=some (some (.own (.ob (some a) c ns ts')))/\Pr ts',rt:=λ_=>False} (startM N c ns a ts ds)):
  CalK P w K mg base c (k+1) ps (spM K n c ns sp):=by
 obtain⟨C,hC,M,hm⟩:=Mf.cl
 exact⟨C,f,fd,hC,M,hm,okM_of Df S hn hbody,Df.binds hb⟩
theorem CalP.of (Df:MetAt K c m q st f fd)(S:FnScope N ps (Xac st))
  (hb:∀(kV doc pm:Value) (an:Option Addr) (cdv ct:Value) (us:List Value),us.length=ps.length->bindArgs (PySem.W.fnOf m q (defArgs st) (Xa4 st) (Xac st) .none kV doc pm an cdv ct) ⟨us,[]⟩=pure (ps.zip us)) (hn:n=ps.length)
  (hbody:∀(cdv:Value) (A:Around) (outer:List Env) (s:Shared) (H:Hp) (E:XK),Room k (A.deeper (envOfC q (Xac st) s.heap.objs.size f cdv))->
   ∃t T,PSs (cxOf CX0 P w K mg base N q (Xac st) f cdv A outer s H E).nox (Xa4 st) t/\SimS K t T/\∀ds Pr,sp ds Pr->T {nx:=λ_=>Pr (.fz .non),rt:=Pr} (startV N ds)): CalM P w K mg base c m (k+1) ps (spV K n sp):=by
 obtain⟨C,hC,cl,hm⟩:=Df.cl
 refine⟨C,f,fd,hC,cl,hm,Df.fn.ok S (λvs H Q E h=>by rw[<- hn];exact h.1) λcdv A outer s H vs Q E hr h=>?_,Df.fn.binds hb⟩
 obtain⟨_,F,ds,Pr,hs,hr',hsp,hq⟩:=h
 obtain⟨t,T,h1,h2,h3⟩:=hbody cdv A outer s H E hr
 refine⟨t,h1,h2 F H F H (start N vs) (startV N ds) {nx:=λ_=>Pr (.fz .non),rt:=Pr} _ ⟨_,startV_er hs hr'⟩ ⟨λF' H' Y δ e p=>?_,λ_ _ _ _ _ z=>z.elim,λ_ _ _ _ _ z=>z.elim,λF' H' r v x n p=>hq r v F' H' p x n⟩ (h3 ds Pr hsp)⟩
 exact hq _ _ F' H' p e.ext (.fz rfl)
end
end L2
namespace PySem
open Sem (wp)
section
variable {prog:Program}{w:World}{A:Around}{E:Value->Shared->Prop}{s:Shared}
theorem lri_no_len:typeLookup (.type "list_reverseiterator") "__len__"=pure none:=by rw[typeLookup_type];kernel_rfl
theorem lri_hint:typeLookup (.type "list_reverseiterator") "__length_hint__"=pure (some (.builtin "list_reverseiterator.__length_hint__")):=by rw[typeLookup_type];kernel_rfl
theorem wpAny_hint_lri {I l:Addr}{i:Int}{Q:Bool->Shared->Prop}(hr:s.heap.IsRevIter I l i)(h:Q false s):wpAny (model prog w) A (Builtin.List.listLengthHint (.ref I)) Q E s:=by
 refine wpAny_bind (wpAny_specialOf hr.typeIs lri_no_len ?_)
 refine wpAny_bind (wpAny_specialOf hr.typeIs lri_hint ?_)
 generalize hid:("list_reverseiterator.__length_hint__":String)=id0
 wp_delta
 subst hid
 refine wpAny_bind (wpAny_isInstance (T := "list_reverseiterator") (b:=true) hr.typeIs (by rw[isSubtype_type];kernel_rfl) ?_)
 refine wpAny_ite_split (λhab=>absurd hab (by decide)) (λ_=>?_)
 refine wpAny_ite_split (λ_=>?_) (λhab=>absurd (by decide +kernel) hab)
 exact wpAny_pure h
theorem wpAny_extend_lri {R:Result->Shared->Prop}{I l:Addr}{items:Array Value}(hh:A.handled=none)(hr:s.heap.IsRevIter I l ((items.size:Int)-1))(hl:s.heap.IsList l items)(hlen:items.size<=2^24)
  (S:Addr) (res:Value) (c₀:Nat) (hS:s.heap.get? S=some {cls:=.type "list",data:=.seq #[] c₀}) (hSI:S≠I) (hSl:S≠l) (hlI:l≠I)
  (hR:∀h' tk acc' c',(∀b o,b≠S->b≠I->s.heap.get? b=some o->h'.get? b=some o)->h'.get? S=some {cls:=.type "list",dict:=none,data:=.seq acc' c',slots:=#[]}->
   ItemsOf (λi v=>items[items.size-1-i]?=some v) acc' items.size->R (.ok (.ret res)) {s with heap:=h',toks:=tk}):
  wpAny (model prog w) A.in1 (Builtin.List.listExtendWith (.ref S) (.ref I) res)
   (λfin s'=>match fin with | .done f=>R (.ok f) s' | .again c'=>c'.quiet=true/\codeAny (model prog w) A c' R s') (λe s'=>R (.error e) s') s:=by
 have hSf:S∉[I,l]:=λhm=>by
  rcases List.mem_cons.mp hm with e |e
  .exact hSI e
  .exact hSl (List.mem_singleton.mp e)
 have W:=(Walks.listRev (prog:=prog) (w:=w) (A:=A.in1) hh I l hlI items).toS
 refine wpAny_bind (wpAny_typeOf hr.typeIs ?_)
 have h1:Builtin.List.listSameRef (.ref S) (.ref I)=false:=by simp[Builtin.List.listSameRef,hSI]
 have h2:(Value.type "list_reverseiterator"==Value.type "list")=false:=rfl
 have h3:(Value.type "list_reverseiterator"==Value.type "tuple")=false:=rfl
 simp only[h1,if_false]
 refine wpAny_bind (wpAny_pyIter_revIter hr ?_)
 refine wpAny_bind (wpAny_holding (wpAny_hint_lri hr ?_))
 refine wpAny_ite_split (λhab=>absurd hab (by decide)) (λ_=>wpAny_pure ⟨plainId_quiet F.plain_extend_loop _,?_⟩)
 refine codeAny_extend_loopS W (by rw[sizeLine_eq];omega) S hSf res items.size 0 _ #[] c₀ rfl (Nat.zero_le _) ⟨Nat.zero_le _,by simpa using hr,hl⟩ hS (ItemsOf.nil _) λs' acc' c' hm hS' hacc=>?_
 rw[Moved.eq_with hm]
 refine hR s'.heap s'.toks acc' c' (λb o hb hb2 e=>hm.heap b o (λhmem=>?_) e) hS' hacc
 rcases List.mem_cons.mp hmem with e' |hmem
 .exact hb e'
 .exact hb2 (List.mem_singleton.mp hmem)
theorem wpAny_list_init_lri {R:Result->Shared->Prop}{I l:Addr}{items:Array Value}(hh:A.handled=none)(hr:s.heap.IsRevIter I l ((items.size:Int)-1))(hl:s.heap.IsList l items)(hlen:items.size<=2^24)
  (S:Addr) (hS:s.heap.get? S=some {cls:=.type "list",data:=.seq #[]}) (hSI:S≠I) (hSl:S≠l) (hlI:l≠I)
  (hR:∀h' tk acc' c',(∀b o,b≠S->b≠I->s.heap.get? b=some o->h'.get? b=some o)->h'.get? S=some {cls:=.type "list",dict:=none,data:=.seq acc' c',slots:=#[]}->
   ItemsOf (λi v=>items[items.size-1-i]?=some v) acc' items.size->R (.ok (.ret .none)) {s with heap:=h',toks:=tk}):
  wpAny (model prog w) A.in1 (Builtin.«list.__init__» ⟨[.ref S,.ref I],[]⟩)
   (λfin s'=>match fin with | .done f=>R (.ok f) s' | .again c'=>c'.quiet=true/\codeAny (model prog w) A c' R s') (λe s'=>R (.error e) s') s:=by
 refine wpAny_bind ?_
 refine wpAny_bind (wpAny_seqItems hS rfl (wpAny_pure ?_))
 refine wpAny_bind (wpAny_updateSeq hS rfl ?_)
 have hS₂:=Heap.get?_update_self (Obj.mapSeq (λ_=>(#[]:Array Value))) hS rfl
 have oth:∀b o,b≠S->s.heap.get? b=some o->(s.heap.update S (Obj.mapSeq (λ_=>(#[]:Array Value)))).get? b=some o:=
  λb o hb e=>(Heap.get?_update_other _ _ (Ne.symm hb)).trans e
 refine wpAny_extend_lri hh (hr.at λo e=>oth I o (Ne.symm hSI) e) (hl.at λo e=>oth l o (Ne.symm hSl) e) hlen S .none _ hS₂ hSI hSl hlI λh' tk acc' c' hk hS' hacc=>?_
 exact hR h' tk acc' c' (λb o hb hb2 e=>hk b o hb hb2 (oth b o hb e)) hS' hacc
theorem call_list_lri {Q:Value->Shared->Prop}{I l:Addr}{items:Array Value}(hh:A.handled=none)(hr:s.heap.IsRevIter I l ((items.size:Int)-1))(hl:s.heap.IsList l items)(hlen:items.size<=2^24)(hlI:l≠I)
  (hQ:∀h' tk acc' c',(∀b o,b≠I->s.heap.get? b=some o->h'.get? b=some o)->
   h'.get? s.heap.objs.size=some {cls:=.type "list",dict:=none,data:=.seq acc' c',slots:=#[]}->ItemsOf (λi v=>items[items.size-1-i]?=some v) acc' items.size->Q (.ref s.heap.objs.size) {s with heap:=h',toks:=tk}):
  wpAny (model prog w) A (call (.type "list") [.ref I]) Q E s:=by
 refine callType_codes (Q₁:=λobj s₁=>obj = .ref s.heap.objs.size/\s₁={s with heap:=s.heap.push {cls:=.type "list",data:=.seq #[]}}) F.called_list (F.typeCall_list_1 _) F.entry_list_init
  (code_list_new _ ⟨rfl,rfl⟩) λobj s₁ h₁=>?_
 obtain⟨rfl,rfl⟩:=h₁
 have hS:(s.heap.push {cls:=.type "list",data:=.seq #[]}).get? s.heap.objs.size=some {cls:=.type "list",data:=.seq #[]}:=Heap.get?_push_size _ rfl
 obtain⟨oI,hoI,_⟩:=id hr
 obtain⟨ol,hol,_⟩:=id hl
 refine⟨⟨_,hS,rfl⟩,F.args_list_init_2 _ _,wpAny_list_init_lri (A:=A.in1) hh (hr.at λo e=>Heap.get?_push_of_some _ e) (hl.at λo e=>Heap.get?_push_of_some _ e) hlen _ hS (Ne.symm (Nat.ne_of_lt (Heap.lt_size hoI))) (Ne.symm (Nat.ne_of_lt (Heap.lt_size hol))) hlI λh' tk acc' c' hk hS' hacc=>?_⟩
 exact⟨rfl,hQ h' tk acc' c' (λb o hb e=>hk b o (Nat.ne_of_lt (Heap.lt_size e)) hb (Heap.get?_push_of_some _ e)) hS' hacc⟩
end
end PySem
namespace L2
open PySem PySem.Spec PyProof.Rows
def dListRev (As:DA):DO:=λδ P=>As δ λds=>match ds with
 | [.lst xs]=>D.lfs xs=true/\xs.length<=1000000/\P (.nl (xs.reverse.map .fz))
 |_=>False
section
variable {X:Cx}{K:Frag}
def tListRev (K:Frag)(ta:TA):TE:=λY H Q=>ta Y H λvs H1=>∃a xs,vs=[.ref a]/\SqL K H1 a xs/\xs.length<=1000000/\∀p H',H1 p=none->Same H1 H'->H' p=some (.lst xs.reverse)->Q (.ref p) H'
theorem vals_rev (r:Vals xs its)(h:ItemsOf (λi v=>its.toArray[its.toArray.size-1-i]?=some v) acc its.toArray.size): Vals xs.reverse acc.toList:=by
 have hr:Vals xs.reverse its.reverse:=by
  clear h
  induction r with
  |nil=>exact .nil
  |cons a r ih=>
   rw[List.reverse_cons,List.reverse_cons]
   exact ih.append (.cons a .nil)
 have e:acc.toList=its.reverse:=by
  obtain⟨h1,h2⟩:=h
  have h1':acc.size=its.length:=h1
  refine List.ext_getElem? λi=>?_
  by_cases hi:i<its.length
  .rw [List.getElem?_reverse hi]
   have hia:i<acc.size:=by lia
   have q:=h2 i acc[i] (by simp)
   rw[Array.getElem?_toList,Array.getElem?_eq_getElem hia,<- q]
   simp
  .rw [List.getElem?_eq_none (by simp;lia),List.getElem?_eq_none (by simp;lia)]
 rw[e];exact hr
theorem pe_listRev (hg:Gl X "list")(hm:X.mg "list"=none)(hc:X.calm=true)(hm':X.mg "reversed"=none)(ha:PA X [a] ta)(hg':Gl X "reversed":=by rfl)
  (hs:starEach [a] X.env=[(false,eval a X.env)]:=by rfl)
  (hs2:starEach [Expr.Call (.Name "reversed" p') [a] [] pos'] X.env=[(false,eval (Expr.Call (.Name "reversed" p') [a] [] pos') X.env)]:=by rfl):
  PE X (.Call (.Name "list" p) [.Call (.Name "reversed" p') [a] [] pos'] [] pos) (tListRev X.K ta):=by
 intro pins s Y H Q I h
 refine Call_ (ld_blt I hg hm PyProof.Rows.boot_list (PyProof.Rows.callWith_type1 ?_ hs2 rfl))
 refine Calls.spliced_cons ?_
 refine Call_ (ld_blt I hg' hm' PyProof.Rows.boot_reversed (PyProof.Rows.callWith_type1 (thn (ha pos' pins s Y H _ I h) λus s1 ⟨vs,H1,I1,r1,q1⟩=>?_) hs rfl))
 obtain⟨l,xs,e,hq,hsz,q⟩:=q1
 subst e
 obtain⟨u,rfl,ru⟩:=vals1 r1
 cases ru
 obtain⟨its,rv,pt,hz⟩:=I1.list hq
 have hl:=rv.length
 refine PySem.call_reversed_list pt.isList ?_
 refine Calls.spliced_nil ?_
 have I2:Inv X pins Y H1 {s1 with heap:=s1.heap.push (revObj l ((its.toArray.size:Int)-1)),toks:=s1.toks}:=I1.kept λb o e=>Heap.get?_push_of_some _ e
 obtain⟨ol,hol,_⟩:=id pt.isList
 have hlt:=Heap.lt_size hol
 refine PySem.call_list_lri (I.ok.hd hc) ⟨_,Heap.get?_push_size _ rfl,rfl,rfl⟩ (pt.isList.at λo e=>Heap.get?_push_of_some _ e) (by rw[List.size_toArray];lia) (Nat.ne_of_lt hlt) λh' tk acc c' hk ho hit=>?_
 have hf:=I2.hok.fresh (Nat.le_refl _)
 have hsz2:(s1.heap.push (revObj l ((its.toArray.size:Int)-1))).objs.size=s1.heap.objs.size+1:=by simp
 refine⟨.ref _,_,I1.laid (t':=tk) (o:=.lst xs.reverse) (λb o e=>hk b o (Nat.ne_of_lt (Heap.lt_size e)) (Heap.get?_push_of_some _ e)) (by rw[hsz2];exact Nat.le_succ _) ⟨?_,acc.toList,c',vals_rev rv hit,?_⟩,rfl,q _ _ hf (Same.new hf) Xa0⟩
 .rw [List.length_reverse];exact sz_le hsz
 .simpa using ho
theorem sO_listRev (h:SimAB K a As): SimO K (tListRev K a) (dListRev As):=λF0 H0 F H Y δ P Q e w q=>h F0 H0 F H Y δ _ _ e w λds vs F1 H1 w1 x1 r1=>by
 split at w1
 .obtain ⟨v,rfl,⟨a,us,rfl,h1,h2⟩⟩:=reps1 r1
  refine⟨a,us,rfl,h1,by rw[<- h2.length];exact w1.2.1,λp H' p0 sm p1=>?_⟩
  have hr:=(Reps.lf x1.fh h2 w1.1).reverse
  refine q _ _ (frzT F1 H1) H' w1.2.2 (x1.trans ((frzT_ext x1.fh).trans (Ext.grow (frzT_ext x1.fh).fh sm))) ?_
  exact RepN.list (x1.hh.free p0) ((frzT_ext x1.fh).fh.free p0) p1 hr
 .exact w1.elim
end
def dJoin (E El:DE):DE:=λδ P=>E δ λd=>match d with
 | .str x=>El δ λl=>match l with
  | .lst ds=>∃ys:List Str,ds=ys.map D.str/\(ys.map (·.length)).sum+ys.length*x.length<=16777216/\P (.str (Txt.join x ys))
  |_=>False
 |_=>False
section
variable {X:Cx}{K:Frag}
def rJoin (K:Frag):V->List V->Hp->VK->Prop:=λx vs H Q=>∃sep p xs,∃ys:List Str,x = .str sep/\vs=[.ref p]/\SqL K H p xs/\xs=ys.map V.str/\(ys.map (·.length)).sum+ys.length*sep.length<=16777216/\Q (.str (Txt.join sep ys)) H
theorem strs_of_vals:∀{ys:List Str} {us:List Value},Vals (ys.map V.str) us->StrsAre us ys
 | [],us,r=>by rw[List.map_nil]at r;cases r;exact .nil
 |y :: ys,us,r=>by
  cases r with
  |cons r1 r2=>
   obtain⟨t,e⟩:=r1
   subst e
   exact .cons y t (strs_of_vals r2)
theorem mt_join:MtR X "str.join" (rJoin X.K):=by
 intro pins s Y H x xs v us Q I rx r h
 obtain⟨sep,p,zs,ys,rfl,rfl,hq,rfl,hb,q⟩:=h
 obtain⟨t,rfl⟩:=rx
 obtain⟨u,rfl,ru⟩:=vals1 r
 cases ru
 obtain⟨its,rv,pt,hz⟩:=I.list hq
 refine PyProof.Rows.join_list pt.isList (by simpa using strs_of_vals rv) hb λt' k=>⟨.str _,H,I.tok k,⟨_,rfl⟩,q⟩
def rSlStr:V->Option Int->Option Int->Hp->VK->Prop:=λx lo hi H Q=>∃z,x = .str z/\z.length<=sizeLine/\Q (.str (Txt.slice z lo hi)) H
theorem sl_str:SlR X rSlStr:=by
 intro pins s Y H x v vl vu lo hi sl Q I rx hs pl pu h
 obtain⟨z,rfl,hz,q⟩:=h
 obtain⟨t,rfl⟩:=rx
 refine⟨"str",_,F.slot_str_getitem.lookup,typeIs_str _ _ _,?_⟩
 have fin:∀t' k,EP X pins Y Q (.str (Txt.slice z lo hi) t') {s with toks:=k}:=λt' k=>⟨.str _,H,I.tok k,⟨_,rfl⟩,q⟩
 have lp:∀{v:Value} {o:Option Int},IsPart v o->∃l:Option (Int×Tok),v=partValue l/\l.map (·.1)=o:=λh=>by
  cases h with
  |none=>exact⟨none,rfl,rfl⟩
  |int i t=>exact⟨some (i,t),rfl,rfl⟩
 obtain⟨l,rfl,e1⟩:=lp pl
 obtain⟨u,rfl,e2⟩:=lp pu
 subst e1 e2
 exact wpAny_getItem_str_slice (st:=none) hs rfl (post_val_or_str ⟨Nat.le_trans (Txt.slice_le z _ _) hz,λt' k=>fin t' k⟩)
theorem sF_join (h:SimB K te E)(ha:SimB K ta El): SimF K (tBM K "str" (rJoin K) te (tCons ta tNil)) (dJoin E El):=λF0 H0 F H Y δ P Q e w q=>h F0 H0 F H Y δ _ _ e w λd v F1 H1 w1 x1 r1=>by
 split at w1
 .rename_i x
  cases (show v=V.str x from r1)
  refine⟨rfl,ha F0 H0 F1 H1 Y δ _ _ (e.on x1) w1 λl u F2 H2 w2 x2 r2=>?_⟩
  split at w2
  .obtain ⟨ys,rfl,hb,w2⟩:=w2
   obtain⟨a,us,rfl,h1,h2⟩:=r2
   have hus:us=ys.map V.str:=by
    clear h1 hb w2
    induction ys generalizing us with
    |nil=>exact h2
    |cons y ys ih=>
     obtain⟨v,r,rfl,g1,g2⟩:=h2
     rw[ih _ g2,show v=V.str y from g1];rfl
   exact⟨x,a,us,ys,rfl,rfl,h1,hus,hb,q _ _ F2 H2 w2 (x1.trans x2) rfl⟩
  .exact w2.elim
 .exact w1.elim
def dSlS (E:DE)(L U:DPt):DE:=λδ P=>E δ λd=>L δ λlo=>U δ λhi=>match d with
 | .str z=>z.length<=1000000/\P (.str (Txt.slice z lo hi))
 |_=>False
theorem sF_slS (ha:SimF K ta Ea)(hl:SimP K tl L)(hu:SimP K tu U): SimF K (tSl rSlStr ta tl tu) (dSlS Ea L U):=λF0 H0 F H Y δ P Q e w q=>
 ha F0 H0 F H Y δ _ _ e w λd v F1 H1 w1 x1 r1=>hl F0 H0 F1 H1 Y δ _ _ (e.on x1) w1 λlo F2 H2 w2 x2=>hu F0 H0 F2 H2 Y δ _ _ (e.on (x1.trans x2)) w2 λhi F3 H3 w3 x3=>by
  split at w3
  .rename_i z
   cases (show v=V.str z from r1)
   exact⟨z,rfl,sz_le w3.1,q _ _ F3 H3 w3.2 (x1.trans (x2.trans x3)) rfl⟩
  .exact w3.elim
theorem isEmpty_reps:∀{ds:List D} {vs:List V},Reps K F ds vs->vs.isEmpty=ds.isEmpty
 | [],vs,h=>by cases (show vs=[] from h);rfl
 |d::ds,vs,h=>by obtain⟨v,r,rfl,_⟩:=h;rfl
theorem sT_truth (h:SimB K t E): SimT K (λY H Q=>t Y H λx H1=>∃k,TruV K x H1 k/\Q k H1) (dTruth E):=λF0 H0 F H Y δ P Q e w q=>h F0 H0 F H Y δ _ _ e w λd v F1 H1 w1 x1 r1=>by
 split at w1
 .cases r1;exact⟨_,rfl,q _ F1 H1 w1 x1⟩
 .rename_i i
  cases r1
  refine⟨_,rfl,q _ F1 H1 ?_ x1⟩
  rw[show (i != 0)=decide (i≠0) by rw[Bool.eq_iff_iff];simp]
  exact w1
 .obtain ⟨a,vs,rfl,h1,h2⟩:=r1
  exact⟨_,.inl ⟨vs,h1,by rw[isEmpty_reps h2]⟩,q _ F1 H1 w1 x1⟩
 .obtain ⟨a,vs,rfl,h1,h2⟩:=r1
  exact⟨_,.inr (.inl ⟨vs,h1,by rw[isEmpty_reps h2]⟩),q _ F1 H1 w1 x1⟩
 .cases r1;exact⟨_,rfl,q _ F1 H1 w1 x1⟩
 .exact w1.elim
end
def sgns (x:Str):List Str:=x.cps.toList.map λc=>⟨#[c]⟩
def dItS (E:DE):DA:=λδ P=>E δ λd=>match d with
 | .str x=>P ((sgns x).map D.str)
 |_=>False
section
variable {X:Cx}{K:Frag}
def Itx (x:Str):It:=⟨λi _=>i<x.cps.size,λi H v H'=>H'=H/\∃c,x.cps[i]?=some c/\v = .str ⟨#[c]⟩,λi _=>x.cps.size<=i⟩
theorem turn_str (it:Addr)(x:Str)(t:Tok): Turn P w K tg (Itx x) [it] it (λi h=>i<=x.cps.size/\(h.IsStrIter it "str_ascii_iterator" x t i∨h.IsStrIter it "str_iterator" x t i)) where
 mem:=by simp
 obj:=λi h st b hb=>by
  have e:b=it:=by simpa using hb
  subst e
  rcases st.2 with⟨o,ho,_,hd⟩ | ⟨o,ho,_,hd⟩
  .exact ⟨o,ho,λv z=>by rw[hd]at z;cases z⟩
  .exact ⟨o,ho,λv z=>by rw[hd]at z;cases z⟩
 keep:=λi h h' st k=>⟨st.1,st.2.imp (λ⟨o,e,r⟩=>⟨o,k it (by simp) o e,r⟩) (λ⟨o,e,r⟩=>⟨o,k it (by simp) o e,r⟩)⟩
 item:=by
  intro X hP hw hK hc i pins s Y H E I hf st hg
  have hi:i<x.cps.size:=hg
  obtain⟨f0,f1,f2,f3,f4,f5⟩:=hf it (by simp)
  have hx:x.cps[i]?=some x.cps[i]:=Array.getElem?_eq_getElem hi
  rcases st.2 with st0 |st0
  .refine PySem.wpAny_pyNext_ascii_item st0 hx λh' st1 sb=>?_
   have I1:Inv X pins Y H {s with heap:=h',toks:=s.toks+1}:=I.turned (t':=s.toks+1) (λb o hb e=>(sb.2 b hb).trans e) f0 f1 f3 f4 f5
   obtain⟨o,ho,hc',hd'⟩:=id st1
   exact⟨_,rfl,go_of (s:={s with heap:=h',toks:=s.toks+1}) (n := "str_ascii_iterator") ho hc' hd' rfl ⟨.str ⟨#[x.cps[i]]⟩,H,I1,⟨_,rfl⟩,⟨rfl,_,hx,rfl⟩,⟨by lia,.inl st1⟩,λb hb=>(hf b hb).1⟩⟩
  .refine PySem.wpAny_pyNext_wide_item st0 hx λh' st1 sb=>?_
   have I1:Inv X pins Y H {s with heap:=h',toks:=s.toks+1}:=I.turned (t':=s.toks+1) (λb o hb e=>(sb.2 b hb).trans e) f0 f1 f3 f4 f5
   obtain⟨o,ho,hc',hd'⟩:=id st1
   exact⟨_,rfl,go_of (s:={s with heap:=h',toks:=s.toks+1}) (n := "str_iterator") ho hc' hd' rfl ⟨.str ⟨#[x.cps[i]]⟩,H,I1,⟨_,rfl⟩,⟨rfl,_,hx,rfl⟩,⟨by lia,.inr st1⟩,λb hb=>(hf b hb).1⟩⟩
 done:=by
  intro X hP hw hK hc i pins s Y H E I hf st hg
  obtain⟨f0,f1,f2,f3,f4,f5⟩:=hf it (by simp)
  have hx:x.cps[i]?=none:=Array.getElem?_eq_none hg
  rcases st.2 with st0 |st0
  .exact PySem.wpAny_pyNext_ascii_end (I.ok.hd hc) st0 hx λh' eb=>⟨rfl,I.turned (t':=s.toks) (λb o hb e=>eb b o hb e) f0 f1 f3 f4 f5⟩
  .exact PySem.wpAny_pyNext_wide_end (I.ok.hd hc) st0 hx λh' eb=>⟨rfl,I.turned (t':=s.toks) (λb o hb e=>eb b o hb e) f0 f1 f3 f4 f5⟩
 self:=λ_ _ _ _ _ st h=>by
  rcases st.2 with st0 |st0
  .exact PySem.wpAny_pyIter_striter_ascii st0 h
  .exact PySem.wpAny_pyIter_striter_wide st0 h
def iStr (te:TE):TI:=λY H R=>te Y H λv H1=>∃x,v = .str x/\R (Itx x) H1
theorem pi_str (he:PE X l te): PI X tg l (iStr te):=by
 intro pins s Y H R I h
 refine thn (he pins s Y H _ I h) λu s1 ⟨v,H1,I1,r1,q1⟩=>?_
 obtain⟨x,e,q⟩:=q1
 subst e
 obtain⟨t,rfl⟩:=r1
 cases ha:x.cps.all (· < 128)
 .refine PySem.wpAny_pyIter_wide ha ?_
  refine⟨s1.heap.objs.size,[s1.heap.objs.size],_,_,H1,rfl,I1.kept (t':=s1.toks) λb o e=>Heap.get?_push_of_some _ e,turn_str s1.heap.objs.size x t,⟨Nat.zero_le _,.inr ⟨_,Heap.get?_push_size _ rfl,rfl,rfl⟩⟩,λb hb=>?_,q⟩
  have e:b=s1.heap.objs.size:=by simpa using hb
  subst e
  exact I1.fpOk (Nat.le_refl _) (I1.hok.fresh (Nat.le_refl _))
 .refine PySem.wpAny_pyIter_ascii ha ?_
  refine⟨s1.heap.objs.size,[s1.heap.objs.size],_,_,H1,rfl,I1.kept (t':=s1.toks) λb o e=>Heap.get?_push_of_some _ e,turn_str s1.heap.objs.size x t,⟨Nat.zero_le _,.inl ⟨_,Heap.get?_push_size _ rfl,rfl,rfl⟩⟩,λb hb=>?_,q⟩
  have e:b=s1.heap.objs.size:=by simpa using hb
  subst e
  exact I1.fpOk (Nat.le_refl _) (I1.hok.fresh (Nat.le_refl _))
theorem sI_str (h:SimB K t E): SimI K (iStr t) (dItS E):=λF0 H0 F H Y δ P R e w q=>h F0 H0 F H Y δ _ _ e w λd v F' H' p x r=>by
 split at p
 .rename_i z
  cases (show v=V.str z from r)
  refine⟨z,rfl,q _ _ F' H' p x λF1 H1 s1 s2=>?_⟩
  have hl:((sgns z).map D.str).length=z.cps.size:=by simp[sgns]
  rw[hl]
  refine⟨λi hi=>hi,Nat.le_refl _,λi v H2 hi y=>?_⟩
  obtain⟨rfl,c,hc,rfl⟩:=y
  refine⟨.str ⟨#[c]⟩,F1,?_,Ext.refl s2,rfl⟩
  simp[sgns,hc]
 .exact p.elim
end
section
variable {X:Cx}{K:Frag}
end
section
variable {K:Frag}{c f:Str}{ns:List Str}{j:Nat}{ta:TE}{E:DE}
end
section
variable {X:Cx}{tg elt iter cd:Expr}{scope:Scope}{N:List Str}{ix:List (Option Nat)}{wi:TI}{g:TG}{tc:TT}{te:TE}{pos:Pos}
end
section
variable {K:Frag}{te:TE}{Eo:DO}
end
theorem adr {x y:Nat}(h:x≠y):(show Addr from x)≠(show Addr from y):=h
section
variable {prog:Program}{w:World}{A:Around}{E:Value->Shared->Prop}{s:Shared}
end
section
variable {X:Cx}{K:Frag}{mg:Str->Option Value}
end
section
variable {X:Cx}{K:Frag}
end
abbrev TK:=V->St->Hp->(Bool->Hp->Prop)->Prop
section
variable {X:Cx}{K:Frag}{a e e':Expr}{es:List Expr}{op op':CmpOp}{ops:List CmpOp}{r:R2}{ta te:TE}{tk:TK}{pos:Pos}
end
abbrev DK:=D->Dst->(Bool->Prop)->Prop
section
variable {K:Frag}{ta te:TE}{E Ea:DE}{tk:TK}{k:DK}{R:R2}{r:DR2}
end
def sNever:DS:=λ_ _=>False
section
variable {X:Cx}{K:Frag}{st:Stmt}{sts:List Stmt}
theorem sS_never:SimS K tNever sNever:=λ_ _ _ _ _ _ _ _ _ _ w=>w.elim
end
abbrev P2 (h:Heap)(t:Addr)(a b:Value):Prop:=h.get? t=some {cls:=.type "tuple",data:=.seq #[a,b]}
abbrev Zt (h:Heap)(b:Nat)(v:Value):Prop:=IsZip h (b+4) (b+2) (b+3) v
theorem tupIter_here (x:IsTupIter h a t i)(e:∀o,h.get? a=some o->h'.get? a=some o): IsTupIter h' a t i:=let⟨o,ho,r⟩:=x;⟨o,e _ ho,r⟩
section
variable {prog:Program}{w:World}{A:Around}{E:Value->Shared->Prop}{s:Shared}
theorem nextT_item {Q:Value->Shared->Prop}(hi:IsTupIter s.heap it t i)(ht:IsTup s.heap t its)(hx:its[i]?=some x)(q:∀g,IsTupIter g it t (i+1)->Heap.SameBut it s.heap g->Q x {s with heap:=g}): wpAny (model prog w) A (Builtin.SmallTypes.nextOf (.ref it)) Q E s:=by
 obtain⟨o,o1,o2,o3⟩:=id hi
 obtain⟨p,p1,_,n,p2⟩:=ht
 refine wpAny_bind (wpAny_callSpecial?_slot (name:=Str.ofString "__next__") hi.typeIs slot_tupleiter_next (wpAny_call_entry slot_tupleiter_next hi.typeIs entry_tupleiter_next ?_ (args_tupleiter_next _)))
 show wpAny _ _ (field (.ref it) 0 >>= _) _ _ s
 refine wpAny_bind (wpAny_field o1 o3 (x:=.ref t) rfl ?_)
 refine wpAny_bind (wpAny_field o1 o3 (x:=.int i 0) rfl ?_)
 refine wpAny_bind (wpAny_seqItems p1 p2 ?_);simp only[hx,Int.toNat_natCast]
 refine wpAny_bind (wpAny_setField o1 o3 (by simp) (wpAny_pure ⟨x,rfl,wpAny_pure (q _ ?_ (Heap.SameBut.update ..))⟩))
 exact⟨_,Heap.get?_update_self _ o1 (Obj.isFreed_of_fields (Obj.data_mapFields o3 _)),(Obj.cls_mapFields ..).trans o2,by rw[Obj.data_mapFields o3];simp[rawInt]⟩
theorem nextT_end {it t:Addr}{i:Nat}{its:Array Value}{Q:Value->Shared->Prop}(hh:A.handled=none)(hi:IsTupIter s.heap it t i)(ht:IsTup s.heap t its)(hx:its[i]?=none)(q:∀g e,Heap.ExtBut it s.heap g->(∃o,g.get? e=some o/\o.cls = .type "StopIteration")->E (.ref e) {s with heap:=g}):wpAny (model prog w) A (Builtin.SmallTypes.nextOf (.ref it)) Q E s:=by
 obtain⟨o,o1,o2,o3⟩:=id hi
 obtain⟨p,p1,_,n,p2⟩:=ht
 refine wpAny_bind (wpAny_callSpecial?_slot (name:=Str.ofString "__next__") hi.typeIs slot_tupleiter_next (wpAny_call_entry slot_tupleiter_next hi.typeIs entry_tupleiter_next ?_ (args_tupleiter_next _)))
 show wpAny _ _ (field (.ref it) 0 >>= _) _ _ s
 refine wpAny_bind (wpAny_field o1 o3 (x:=.ref t) rfl ?_)
 refine wpAny_bind (wpAny_field o1 o3 (x:=.int i 0) rfl ?_)
 refine wpAny_bind (wpAny_seqItems p1 p2 ?_);simp only[hx,Int.toNat_natCast]
 refine wpAny_bind (wpAny_rule (wpAny_bind (wpAny_setField o1 o3 (by simp) ?_)))
 refine wpAny_bind ?_;simp only[ newExc]
 refine wpAny_bind (wpAny_newObj_type ?_ (by size_fits));refine wpAny_bind (m:=firstArgMember _ _) (wpAny_of_eq (by first |rfl | (simp only[firstArgMember];rfl)) ?_)
 refine wpAny_newObj_type ?_ (by size_fits);simp only[raiseNew]
 refine wpAny_bind (wpAny_handled ?_);first |rw[show A.in1.handled=none from hh] |rw[hh]
 exact wpAny_bind (wpAny_pure (wpAny_throw (q _ _ (((Heap.SameBut.update ..).extBut.push _).push _) ⟨_,Heap.get?_push_size _ rfl,rfl⟩)))
theorem p2_put {t:Addr}{a b x:Value}{k:Nat}{Q:Unit->Shared->Prop}(ht:P2 s.heap t a b)
  (q:∀g,g.get? t=some {cls:=.type "tuple",data:=.seq ((#[a,b]:Array Value).setIfInBounds k x)}->Heap.SameBut t s.heap g->Q () {s with heap:=g}):wpAny (model prog w) A (updateSeq t (·.setIfInBounds k x)) Q E s:=by
 refine wpAny_updateSeq ht rfl (q _ ?_ (Heap.SameBut.update ..))
 rw[Heap.get?_update_self _ ht rfl];simp[Obj.mapSeq]
theorem zipT_step {Q:Value->Shared->Prop}(hb:l1<b/\l2<b)
  (Z:Zt s.heap b .none) (I0:P2 s.heap (b+2) (.ref b) (.ref (b+1))) (O0:P2 s.heap (b+3) a1 a2) (w1:IsTupIter s.heap b l1 k) (w2:IsTupIter s.heap (b+1) l2 k)
  (p1:IsTup s.heap l1 xs) (p2:IsTup s.heap l2 ys) (e1:xs[k]?=some x) (e2:ys[k]?=some y)
  (q:∀g,Zt g b (rawInt s.heap.objs.size)->P2 g (b+3) x y->IsTupIter g b l1 (k+1)->IsTupIter g (b+1) l2 (k+1)->P2 g s.heap.objs.size x y->g.objs.size=s.heap.objs.size+1->
   (∀c o,c≠b+4->c≠b+3->c≠b->c≠b+1->s.heap.get? c=some o->g.get? c=some o)->Q (.ref s.heap.objs.size) {s with heap:=g}):
  wpAny (model prog w) A (Builtin.«zip.__next__» ⟨[.ref (b+4)],[]⟩) (λr s'=>∃v,r = .done (.ret v)/\Q v s') E s:=by
 obtain⟨b1,b2⟩:=hb
 have off:∀l:Nat,l<b->l≠b+4/\l≠b+3/\l≠b:=λl h=>⟨by lia,by lia,by lia⟩
 obtain⟨a14,_,_⟩:=off l1 b1
 obtain⟨a24,a23,a20⟩:=off l2 b2
 show wpAny _ _ (field (.ref (b+4)) 2 >>= _) _ _ _
 refine wpAny_bind (wpAny_field Z rfl (x:=.bool false) rfl ?_)
 refine wpAny_bind (wpAny_field Z rfl (x:=.ref (b+2)) rfl (wpAny_bind (wpAny_seqItems I0 rfl ?_)))
 refine wpAny_bind ?_
 refine wpAny_bind (wpAny_field Z rfl rfl (wpAny_pure ?_));simp only[if_true]
 refine wpAny_bind (wpAny_rule (wpAny_bind (wpAny_field Z rfl (x:=.ref (b+3)) rfl (wpAny_bind (wpAny_setField_rec Z (by simp) λg1 Z1 f1=>?_)))))
 refine wpAny_bind ?_
 refine wpAny_bind (wpAny_bind (wpAny_onRaise ?_))
 refine wpAny_bind (nextT_item (w1.extBut f1.extBut (adr (by lia))) (p1.extBut f1.extBut a14) e1 λg2 v1 f2=>wpAny_pure ?_)
 have O2:P2 g2 (b+3) a1 a2:=f2.extBut _ _ (adr (by lia)) (f1.extBut _ _ (adr (by lia)) O0)
 refine wpAny_bind (wpAny_seqItems O2 rfl (wpAny_bind (p2_put O2 λg3 O3 f3=>wpAny_bind (wpAny_letGo (wpAny_pure ?_)))))
 refine wpAny_bind (wpAny_bind (wpAny_onRaise ?_))
 refine wpAny_bind (nextT_item (((w2.extBut f1.extBut (adr (by lia))).extBut f2.extBut (adr (by lia))).extBut f3.extBut (adr (by lia))) (((p2.extBut f1.extBut a24).extBut f2.extBut a20).extBut f3.extBut a23) e2 λg4 v2 f4=>wpAny_pure ?_)
 have O4:P2 g4 (b+3) x a2:=f4.extBut _ _ (adr (by lia)) O3
 refine wpAny_bind (wpAny_seqItems O4 rfl (wpAny_bind (p2_put O4 λg5 O5 f5=>wpAny_bind (wpAny_letGo (wpAny_pure (wpAny_pure ?_))))))
 replace O5:P2 g5 (b+3) x y:=O5
 refine wpAny_bind (wpAny_seqItems O5 rfl (wpAny_bind (wpAny_newTuple ?_)))
 have size:g5.objs.size=s.heap.objs.size:=by rw[f5.1,f4.1,f3.1,f2.1,f1.1]
 have Z5:Zt g5 b .ellipsis:=f5.extBut _ _ (adr (by lia)) (f4.extBut _ _ (adr (by lia)) (f3.extBut _ _ (adr (by lia)) (f2.extBut _ _ (adr (by lia)) Z1)))
 have keep:∀c o,c≠b+4->c≠b+3->c≠b->c≠b+1->s.heap.get? c=some o->g5.get? c=some o:=λc o c1 c2 c3 c4 e=>
  f5.extBut _ _ c2 (f4.extBut _ _ c4 (f3.extBut _ _ c2 (f2.extBut _ _ c3 (f1.extBut _ _ c1 e))))
 have m1:IsTupIter g5 b l1 (k+1):=((v1.extBut f3.extBut (adr (by lia))).extBut f4.extBut (adr (by lia))).extBut f5.extBut (adr (by lia))
 have m2:IsTupIter g5 (b+1) l2 (k+1):=v2.extBut f5.extBut (adr (by lia))
 have zlt:b+4<g5.objs.size:=Heap.lt_size Z5
 refine wpAny_bind ?_
 have Z8:Zt (g5.push {cls:=.type "tuple",data:=.seq #[x,y]}) b .ellipsis:=Heap.get?_push_of_some _ Z5
 refine wpAny_bind (wpAny_setField_rec Z8 (by simp) λg9 Z9 f9=>?_)
 refine wpAny_setField_rec Z9 (by simp) λg10 Z10 f10=>?_
 have up:∀c o,c≠b+4->g5.get? c=some o->g10.get? c=some o:=λc o c1 e=>f10.extBut _ _ c1 (f9.extBut _ _ c1 (Heap.get?_push_of_some _ e))
 have T10:P2 g10 g5.objs.size x y:=f10.extBut _ _ (Nat.ne_of_gt zlt) (f9.extBut _ _ (Nat.ne_of_gt zlt) (Heap.get?_push_size _ rfl))
 have sz10:g10.objs.size=g5.objs.size+1:=by rw[f10.1,f9.1,Heap.size_push]
 rw[size]at Z10 T10 sz10
 refine wpAny_pure ⟨_,rfl,?_⟩
 rw[size]
 exact q g10 Z10 (up _ _ (adr (by lia)) O5) (tupIter_here m1 λo e=>up _ o (adr (by lia)) e) (tupIter_here m2 λo e=>up _ o (adr (by lia)) e) T10 sz10 λc o c1 c2 c3 c4 e=>up c o c1 (keep c o c1 c2 c3 c4 e)
theorem zipT_stop {b k:Nat}{l1:Addr}{xs:Array Value}{i2:Value}{Q:Fin->Shared->Prop}(hh:A.handled=none)(hb:l1<b)(Z:Zt s.heap b .none)(I0:P2 s.heap (b+2) (.ref b) i2)(w1:IsTupIter s.heap b l1 k)(p1:IsTup s.heap l1 xs)(e1:xs[k]?=none)
  (q:∀g e,(∀c o,c≠b+4->c≠b->s.heap.get? c=some o->g.get? c=some o)->(∃o,g.get? e=some o/\o.cls = .type "StopIteration")->E (.ref e) {s with heap:=g}):wpAny (model prog w) A (Builtin.«zip.__next__» ⟨[.ref (b+4)],[]⟩) Q E s:=by
 have a14:l1≠b+4:=Nat.ne_of_lt (Nat.lt_of_lt_of_le hb (Nat.le_add_right b 4))
 show wpAny _ _ (field (.ref (b+4)) 2 >>= _) _ _ _
 refine wpAny_bind (wpAny_field Z rfl (x:=.bool false) rfl ?_)
 refine wpAny_bind (wpAny_field Z rfl (x:=.ref (b+2)) rfl (wpAny_bind (wpAny_seqItems I0 rfl ?_)))
 refine wpAny_bind ?_
 refine wpAny_bind (wpAny_field Z rfl rfl (wpAny_pure ?_));simp only[if_true]
 refine wpAny_bind (wpAny_rule (wpAny_bind (wpAny_field Z rfl (x:=.ref (b+3)) rfl (wpAny_bind (wpAny_setField_rec Z (by simp) λg1 Z1 f1=>?_)))))
 refine wpAny_bind ?_
 refine wpAny_bind (wpAny_bind (wpAny_onRaise ?_))
 refine wpAny_bind (nextT_end hh (w1.extBut f1.extBut (adr (by lia))) (p1.extBut f1.extBut a14) e1 λg2 e f2 he=>?_)
 obtain⟨oe,o1,o2⟩:=he
 have Z2:Zt g2 b .ellipsis:=f2 _ _ (adr (by lia)) Z1
 have ez:e≠b+4:=λy=>by subst y;rw[Z2]at o1;cases o1;simp at o2
 exact wpAny_setField_rec Z2 (by simp) λg3 _ f3=>q g3 e (λc o c1 c3 y=>f3.extBut _ _ c1 (f2 _ _ c3 (f1.extBut _ _ c1 y))) ⟨oe,f3.extBut _ _ ez o1,o2⟩
theorem nx_zipT {Q:Option Value->Shared->Prop}(hb:l1<b/\l2<b)
  (Z:Zt s.heap b .none) (I0:P2 s.heap (b+2) (.ref b) (.ref (b+1))) (O0:P2 s.heap (b+3) a1 a2) (w1:IsTupIter s.heap b l1 k) (w2:IsTupIter s.heap (b+1) l2 k)
  (p1:IsTup s.heap l1 xs) (p2:IsTup s.heap l2 ys) (e1:xs[k]?=some x) (e2:ys[k]?=some y)
  (q:∀g,Zt g b (rawInt s.heap.objs.size)->P2 g (b+3) x y->IsTupIter g b l1 (k+1)->IsTupIter g (b+1) l2 (k+1)->P2 g s.heap.objs.size x y->g.objs.size=s.heap.objs.size+1->
   (∀c o,c≠b+4->c≠b+3->c≠b->c≠b+1->s.heap.get? c=some o->g.get? c=some o)->Q (some (.ref s.heap.objs.size)) {s with heap:=g}): wpAny (model prog w) A (pyNext (.ref (b+4))) Q E s:=by
 have tz:s.TypeIs (.ref (b+4)) "zip":=⟨_,Z,rfl⟩
 exact wpAny_bind (wpAny_attempt (wpAny_callSpecial?_slot (name:=Str.ofString "__next__") tz F.slot_zip_next (wpAny_call_entry F.slot_zip_next tz F.entry_zip_next
  (zipT_step hb Z I0 O0 w1 w2 p1 p2 e1 e2 λg c1 c2 c3 c4 c5 c6 c7=>wpAny_pure (q g c1 c2 c3 c4 c5 c6 c7)) (F.args_zip_next_1 _))))
theorem nx_zipT_end {Q:Option Value->Shared->Prop}(hh:A.handled=none)(hb:l1<b)(Z:Zt s.heap b .none)(I0:P2 s.heap (b+2) (.ref b) i2)(w1:IsTupIter s.heap b l1 k)(p1:IsTup s.heap l1 xs)(e1:xs[k]?=none)
  (q:∀g,(∀c o,c≠b+4->c≠b->s.heap.get? c=some o->g.get? c=some o)->Q none {s with heap:=g}): wpAny (model prog w) A (pyNext (.ref (b+4))) Q E s:=by
 have tz:s.TypeIs (.ref (b+4)) "zip":=⟨_,Z,rfl⟩
 refine wpAny_bind (wpAny_attempt (wpAny_callSpecial?_slot (name:=Str.ofString "__next__") tz F.slot_zip_next (wpAny_call_entry F.slot_zip_next tz F.entry_zip_next (zipT_stop hh hb Z I0 w1 p1 e1 λg e k1 k2=>?_) (F.args_zip_next_1 _))))
 obtain⟨o,o1,o2⟩:=k2
 exact wpAny_bind (wpAny_isInstance (T := "StopIteration") ⟨o,o1,o2⟩ isSubtype_stop (wpAny_pure (q _ k1)))
end
abbrev wot (l:Addr):Obj:={cls:=.type "tuple_iterator",data:=.fields #[.ref l,.int 0 0]}
abbrev ztp (h:Heap)(l1:Addr):Heap:=h.push (wot l1)
abbrev ztq (h:Heap)(l1 l2:Addr):Heap:=(ztp h l1).push (wot l2)
abbrev zts (h:Heap)(l1 l2:Addr):Heap:=(ztq h l1 l2).push {cls:=.type "tuple",data:=.seq #[.ref h.objs.size,.ref (ztp h l1).objs.size]}
abbrev ztt (h:Heap)(l1 l2:Addr):Heap:=(zts h l1 l2).push {cls:=.type "tuple",data:=.seq #[.none,.none]}
abbrev ztu (h:Heap)(l1 l2:Addr):Heap:=(ztt h l1 l2).push {cls:=.type "zip",data:=.fields #[.none,.bool false,.bool false,.ref (ztq h l1 l2).objs.size,.ref (zts h l1 l2).objs.size]}
theorem zipT_new (l1 l2:Addr)(xs ys:Array Value): Meets (Builtin.«zip.__new__» ⟨[.type "zip",.ref l1,.ref l2],[]⟩) (λ_ R s=>IsTup s.heap l1 xs/\IsTup s.heap l2 ys/\R (.ok (.ret (.ref (ztt s.heap l1 l2).objs.size))) {s with heap:=ztu s.heap l1 l2}):=
 .of_wp λprog w A R s h=>by
  obtain⟨hp,g,d,tk,os⟩:=s;obtain⟨p1,p2,h⟩:=h
  have hsub:=sub_zip
  have n1:IsTup (Shared.heap ⟨hp,g,d,tk,os⟩) l1 xs:=p1
  have n2:IsTup (Shared.heap ⟨hp.push (wot l1),g,d,tk,os⟩) l2 ys:=IsTup.push p2 _
  wp_walk using iter_tuple n1,iter_tuple n2
  exact⟨_,rfl,h⟩
theorem call_zipT {prog:Program}{w:World}{A:Around}{E:Value->Shared->Prop}{s:Shared}{l1 l2:Addr}{xs ys:Array Value}{Q:Value->Shared->Prop}(p1:IsTup s.heap l1 xs)(p2:IsTup s.heap l2 ys)
  (q:∀g,Zt g s.heap.objs.size .none->P2 g (s.heap.objs.size+2) (.ref s.heap.objs.size) (.ref (s.heap.objs.size+1))->P2 g (s.heap.objs.size+3) .none .none->IsTupIter g s.heap.objs.size l1 0->IsTupIter g (s.heap.objs.size+1) l2 0->
   (∀c o,s.heap.get? c=some o->g.get? c=some o)->Q (.ref (s.heap.objs.size+4)) {s with heap:=g}):wpAny (model prog w) A (call (.type "zip") [.ref l1,.ref l2]) Q E s:=by
 refine callType_new F.called_zip rfl (F.typeCall_zip_2 _ _) (F.newCall_zip_2 _ _) (λo=>F.args_object_init_3 o _ _) F.entry_zip_new (zipT_new l1 l2 xs ys) ⟨p1,p2,?_⟩
 have y1:(ztp s.heap l1).objs.size=s.heap.objs.size+1:=Heap.size_push ..
 have y2:(ztq s.heap l1 l2).objs.size=s.heap.objs.size+2:=by rw[Heap.size_push,y1]
 have y3:(zts s.heap l1 l2).objs.size=s.heap.objs.size+3:=by rw[Heap.size_push,y2]
 have y4:(ztt s.heap l1 l2).objs.size=s.heap.objs.size+4:=by rw[Heap.size_push,y3]
 have on:∀{h:Heap} {o o':Obj} {c:Addr},h.get? c=some o->(h.push o').get? c=some o:=λe=>Heap.get?_push_of_some _ e
 have k5:(ztu s.heap l1 l2).get? (ztt s.heap l1 l2).objs.size=some _:=Heap.get?_push_size _ rfl
 have k4:(ztu s.heap l1 l2).get? (zts s.heap l1 l2).objs.size=some _:=on (Heap.get?_push_size _ rfl)
 have k3:(ztu s.heap l1 l2).get? (ztq s.heap l1 l2).objs.size=some _:=on (on (Heap.get?_push_size _ rfl))
 have k2:(ztu s.heap l1 l2).get? (ztp s.heap l1).objs.size=some _:=on (on (on (Heap.get?_push_size _ rfl)))
 have k1:(ztu s.heap l1 l2).get? s.heap.objs.size=some _:=on (on (on (on (Heap.get?_push_size _ rfl))))
 rw[y2,y3,y4]at k5
 rw[y3]at k4
 rw[y1,y2]at k3
 rw[y1]at k2
 rw[y4]
 exact⟨⟨_,k5,rfl⟩,q _ k5 k3 k4 ⟨_,k1,rfl,rfl⟩ ⟨_,k2,rfl,rfl⟩ λc o e=>on (on (on (on (on e))))⟩
def dZipT (As:DA):DA:=λδ P=>As δ λds=>match ds with
 | [.tup xs,.tup ys]=>xs.length<=ys.length/\P ((xs.zip ys).map λp=>D.tup [p.1,p.2])
 |_=>False
section
variable {X:Cx}{K:Frag}{mg:Str->Option Value}
def ItzT (K:Frag)(a1 a2:Addr)(xs ys:List V):It:=
 ⟨λi H=>SqT K H a1 xs/\SqT K H a2 ys/\i<xs.length/\i<ys.length,λi H x H'=>∃p y1 y2,x = .ref p/\H p=none/\Same H H'/\xs[i]?=some y1/\ys[i]?=some y2/\H' p=some (.tup [y1,y2]),λi H=>SqT K H a1 xs/\xs.length<=i⟩
theorem fivT (h:c∈[b+4,b+2,b+3,b,b+1]): c=b+4∨c=b+2∨c=b+3∨c=b∨c=b+1:=by simpa using h
theorem turn_zipT (a1 a2:Addr)(b:Nat)(xs ys:List V)(hb:a1<b/\a2<b):
  Turn P w K (.Tuple elts x1 tpos) (ItzT K a1 a2 xs ys) [b+4,b+2,b+3,b,b+1] (b+4) (λi h=>Zt h b .none/\P2 h (b+2) (.ref b) (.ref (b+1))/\(∃c d,P2 h (b+3) c d)/\IsTupIter h b a1 i/\IsTupIter h (b+1) a2 i) where
 mem:=by simp
 obj:=λi h st c hc=>by
  obtain⟨h1,h2,⟨_,_,h3⟩,⟨o4,q4,_,r4⟩,⟨o5,q5,_,r5⟩⟩:=st
  rcases fivT hc with q |q |q |q |q
  .rw [q];exact⟨_,h1,λv q=>by cases q⟩
  .rw [q];exact⟨_,h2,λv q=>by cases q⟩
  .rw [q];exact⟨_,h3,λv q=>by cases q⟩
  .rw [q];exact⟨_,q4,λv q=>by rw[r4]at q;cases q⟩
  .rw [q];exact⟨_,q5,λv q=>by rw[r5]at q;cases q⟩
 keep:=λi h h' st k=>by
  obtain⟨h1,h2,⟨c,d,h3⟩,h4,h5⟩:=st
  exact⟨k _ (by simp) _ h1,k _ (by simp) _ h2,⟨c,d,k _ (by simp) _ h3⟩,tupIter_here h4 λo q=>k _ (by simp) o q,tupIter_here h5 λo q=>k _ (by simp) o q⟩
 item := by
  kj_on
  obtain⟨h1,h2,⟨c,d,h3⟩,h4,h5⟩:=st
  obtain⟨hq1,hq2,hi1,hi2⟩:=hg
  obtain⟨its1,rv1,p1,hz1⟩:=I.tuple hq1
  obtain⟨its2,rv2,p2,hz2⟩:=I.tuple hq2
  obtain⟨u1,hu1,ru1⟩:=rv1.get (i:=i) (x:=xs[i]) (by simp)
  obtain⟨u2,hu2,ru2⟩:=rv2.get (i:=i) (x:=ys[i]) (by simp)
  refine nx_zipT hb h1 h2 h3 h4 h5 p1 p2 (by simpa using hu1) (by simpa using hu2) λh' g1 g2 g3 g4 g6 g7 g8=>?_
  refine⟨_,rfl,wpAny_letOwnedTupleGo_zip g1 λh'' k1 k2=>?_⟩
  have hf':=I.hok.fresh (Nat.le_refl _)
  have I0:Inv X pins Y (upd H s.heap.objs.size (.tup [xs[i],ys[i]])) {s with heap:=s.heap.push {cls:=.type "tuple",data:=.seq #[u1,u2]},toks:=s.toks}:=
   I.laid (t':=s.toks) (o:=.tup [xs[i],ys[i]]) (λb ob q=>Heap.get?_push_of_some _ q) (Nat.le_refl _) ⟨sz_le (n:=2) (by decide),[u1,u2],.cons ru1 (.cons ru2 .nil),⟨_,Heap.get?_push_size _ rfl,rfl,_,rfl⟩⟩
  have old:∀c∈[b+4,b+2,b+3,b,b+1],c≠s.heap.objs.size:=λc hc q=>by
   have hlt:c<s.heap.objs.size:=by
    rcases fivT hc with y |y |y |y |y
    .rw [y];exact Heap.lt_size h1
    .rw [y];exact Heap.lt_size h2
    .rw [y];exact Heap.lt_size h3
    .obtain ⟨o,r1,_⟩:=h4
     rw[y];exact Heap.lt_size r1
    .obtain ⟨o,r1,_⟩:=h5
     rw[y];exact Heap.lt_size r1
   rw[q]at hlt
   exact Nat.lt_irrefl _ hlt
  have fe:∀c∈[b+4,b+2,b+3,b,b+1],FpOk X pins (upd H s.heap.objs.size (.tup [xs[i],ys[i]])) c:=λc hc=>by
   obtain⟨q0,q1,q2,q3,q4,q5⟩:=hf c hc
   refine⟨?_,q1,q2,q3,q4,q5⟩
   rw[upd_ne]
   .exact q0
   .exact old c hc
  have I1 : Inv X pins Y (upd H s.heap.objs.size (.tup [xs[i],ys[i]])) {s with heap:=h'',toks:=s.toks}:=by
   have:=I0.turnedL (h':=h'') (t':=s.toks) (L:=[b+4,b+3,b,b+1]) (λc o hb q=>?_) (λc hc=>fe c (by
    have hc':c=b+4∨c=b+3∨c=b∨c=b+1:=by simpa using hc
    rcases hc' with y |y |y |y<;>simp[y]))
   .exact this
   .have bz:c≠b+4:=λy=>hb (by simp[y])
    have hb2:h'.get? c=some o:=by
     by_cases y:c=s.heap.objs.size
     .subst y
      rw[Heap.get?_push_size _ rfl]at q
      rw[<- q];exact g6
     .rw [Heap.get?_push_ne _ _ _ y]at q
      exact g8 c o bz (λy=>hb (by simp[y])) (λy=>hb (by simp[y])) (λy=>hb (by simp[y])) q
    exact k2.extBut c o bz hb2
  have hT:P2 h' (b+2) _ _:=g8 (b+2) _ (adr (by lia)) (adr (by lia)) (adr (by lia)) (adr (by lia)) h2
  refine⟨.ref s.heap.objs.size,_,I1,rfl,⟨_,xs[i],ys[i],rfl,hf',Same.new hf',by simp,by simp,Xa0⟩,⟨k1,k2.extBut _ _ (adr (by lia)) hT,⟨_,_,k2.extBut _ _ (adr (by lia)) g2⟩,g3.extBut k2.extBut (adr (by lia)),g4.extBut k2.extBut (adr (by lia))⟩,λc hc=>(fe c hc).1⟩
 done:=by
  kj_on
  obtain⟨h1,h2,_,h4,_⟩:=st
  obtain⟨hq1,hi⟩:=hg
  obtain⟨its1,rv1,p1,hz1⟩:=I.tuple hq1
  have hl1:=rv1.length
  refine nx_zipT_end (I.ok.hd hc) hb.1 h1 h2 h4 p1 (by simp;lia) λh' eb=>⟨rfl,I.turnedL (t':=s.toks) (L:=[b+4,b]) (λc o hb q=>eb c o (λy=>hb (by simp[y])) (λy=>hb (by simp[y])) q) (λc hc=>hf c (by
    have hc':c=b+4∨c=b:=by simpa using hc
    rcases hc' with y |y<;>simp[y]))⟩
 self:=λ_ _ _ _ _ st h=>by
  obtain⟨h1,_⟩:=st
  exact wpAny_pyIter_zip h1 h
def iZipT (K:Frag)(ta:TA):TI:=λY H R=>ta Y H λvs H1=>∃a1 a2 xs ys,vs=[.ref a1,.ref a2]/\SqT K H1 a1 xs/\SqT K H1 a2 ys/\R (ItzT K a1 a2 xs ys) H1
theorem pi_zipT (hg:Gl X "zip")(hm:X.mg "zip"=none)(ha:PA X [l,m] ta)(hs:starEach [l,m] X.env=(false,eval l X.env)::starEach [m] X.env:=by rfl)(hp:(backTo pos (starEach [m] X.env)).any (·.1)=false:=by rfl): PI X (.Tuple elts x1 tpos) (.Call (.Name "zip" p) [l,m] [] pos) (iZipT X.K ta):=by
 intro pins s Y H R I h
 refine Call_ (ld_blt I hg hm PyProof.Rows.boot_zip (PyProof.Rows.callWith_type1 (thn (ha pos pins s Y H _ I h) λus s1 ⟨vs,H1,I1,r1,q1⟩=>?_) hs hp))
 obtain⟨a1,a2,xs,ys,e,hq1,hq2,q⟩:=q1
 subst e
 obtain⟨u1,u2,rfl,ru1,ru2⟩:=vals2 r1
 cases ru1
 cases ru2
 obtain⟨its1,rv1,pt1,hz1⟩:=I1.tuple hq1
 obtain⟨its2,rv2,pt2,hz2⟩:=I1.tuple hq2
 refine call_zipT pt1 pt2 λh' g1 g2 g3 g4 g5 g7=>?_
 have I2:Inv X pins Y H1 {s1 with heap:=h',toks:=s1.toks}:=I1.kept (t':=s1.toks) g7
 refine wpAny_pyIter_zip (s:={s1 with heap:=h',toks:=s1.toks}) g1 ?_
 refine⟨s1.heap.objs.size+4,_,_,_,H1,rfl,I2,turn_zipT a1 a2 s1.heap.objs.size xs ys ⟨pt1.lt,pt2.lt⟩,⟨g1,g2,⟨_,_,g3⟩,g4,g5⟩,λc hc=>?_,q⟩
 have hle:s1.heap.objs.size<=c:=by
  rcases fivT hc with y |y |y |y |y<;>(rw[y];first |exact Nat.le_add_right _ _ |exact Nat.le_refl _)
 exact I1.fpOk hle (I1.hok.fresh hle)
theorem sI_zipT (h:SimAF K a As): SimI K (iZipT K a) (dZipT As):=λF0 H0 F H Y δ P R e w q=>h F0 H0 F H Y δ _ _ e w λds vs F' H' p x r=>by
 split at p
 .rename_i xs ys
  obtain⟨le1,p⟩:=p
  obtain⟨v1,v2,rfl,⟨a1,us1,rfl,h1,h2⟩,⟨a2,us2,rfl,k1,k2⟩⟩:=reps2 r
  have hl1:=h2.length
  have hl2:=k2.length
  refine⟨a1,a2,us1,us2,rfl,x.fh.seqT h1,x.fh.seqT k1,q _ _ F' H' p x λF1 H1 s1 s2=>?_⟩
  have hq1:=(s1.trans s2).seqT h1
  have hq2:=(s1.trans s2).seqT k1
  have hlen:((xs.zip ys).map λp=>D.tup [p.1,p.2]).length=xs.length:=by simp;lia
  refine⟨λi hi=>⟨hq1,hq2,by lia,by lia⟩,⟨hq1,by lia⟩,λi x H2 hi y=>?_⟩
  obtain⟨t,y1,y2,rfl,ht,sm,hy1,hy2,ht2⟩:=y
  obtain⟨d1,hd1,rd1⟩:=h2.get' hy1
  obtain⟨d2,hd2,rd2⟩:=k2.get' hy2
  refine⟨.tup [d1,d2],upd F1 t (.tup [y1,y2]),?_,Ext.new s2 ht sm ht2,t,[y1,y2],rfl,.inl (.inl Xa0),?_⟩
  .rw [List.getElem?_map,List.getElem?_zip_eq_some (z:=(d1,d2)) |>.mpr ⟨hd1,hd2⟩]
   rfl
  .exact ⟨_,_,rfl,(rd1.mono s1).mono (Same.upd' (s2.free ht)),_,_,rfl,(rd2.mono s1).mono (Same.upd' (s2.free ht)),rfl⟩
 .exact p.elim
end
def DicC (w:World)(K:Frag)(mg:Str->Option Value)(x:Str)(kds:List (Str×D)):Prop:=
 ∃a es n,mg x=some (.ref a)/\K.lookup a=some ⟨.type "dict",none,.dict es n,#[]⟩/\PySem.W.KeysLit w.params es.toList/\(a==sysModules)=false/\
  ∀k,match kds.lookup k with
   |some d=>∃b,findBy Value.isStrOf es k=some (.ref b)/\∀F,Rep K F d (.ref b)
   |none=>findBy Value.isStrOf es k=none
inductive DEs (K:Frag):List (Str×D)->List DictEntry->Prop
 |nil:DEs K [] []
 |cons {k:Str} {d:D} {hs:Int} {t:Tok} {b:Addr} {kds:List (Str×D)} {es:List DictEntry}:(∀F,Rep K F d (.ref b))->DEs K kds es->DEs K ((k,d)::kds) (⟨hs,.str k t,.ref b⟩::es)
theorem DEs.find {K:Frag}{kds:List (Str×D)}{es:List DictEntry}(r:DEs K kds es)(k:Str):match kds.lookup k with
   |some d=>∃b,(es.find? λe=>Value.isStrOf k e.key).map (·.val)=some (.ref b)/\∀F,Rep K F d (.ref b)
   |none=>(es.find? λe=>Value.isStrOf k e.key).map (·.val)=none:=by
 induction r with
 |nil=>rfl
 | @cons k' d hs t b kds es h r ih=>
  by_cases z:k'=k
  .subst z
   rw[List.lookup_cons,beq_self_eq_true]
   refine⟨b,?_,h⟩
   rw[List.find?_cons_of_pos (by show (k'==k')=true;exact beq_self_eq_true _)]
   rfl
  .have h1:(k==k')=false:=beq_eq_false_iff_ne.mpr (Ne.symm z)
   have h2:(k'==k)=false:=beq_eq_false_iff_ne.mpr z
   rw[List.lookup_cons,h1,List.find?_cons_of_neg (by show ¬ (k'==k)=true;rw[h2];exact Bool.false_ne_true)]
   exact ih
theorem dicC_of {w:World}{K:Frag}{mg:Str->Option Value}{x:Str}{kds:List (Str×D)}{a:Addr}{es:List DictEntry}{n:Nat}(e:mg x=some (.ref a))(lk:K.lookup a=some ⟨.type "dict",none,.dict es.toArray n,#[]⟩)
  (kl:PySem.W.KeysLit w.params es) (sm:(a==sysModules)=false) (r:DEs K kds es):DicC w K mg x kds:=
 ⟨a,es.toArray,n,e,lk,kl,sm,λk=>by
  have h:=r.find k
  unfold findBy
  rw[List.find?_toArray]
  exact h⟩
def tNotInC (kds:List (Str×D))(ty:TE):TE:=λY H Q=>ty Y H λy H1=>∃k,y = .str k/\Q (.bl (kds.lookup k).isNone) H1
def tGetC (K:Frag)(kds:List (Str×D))(ty:TE):TE:=λY H Q=>ty Y H λy H1=>∃k d,y = .str k/\kds.lookup k=some d/\∀v,(∀F,Rep K F d v)->Q v H1
def dNotInC (kds:List (Str×D))(E:DE):DE:=λδ P=>E δ λd=>match d with
 | .str k=>P (.bl (kds.lookup k).isNone)
 |_=>False
def dGetC (kds:List (Str×D))(E:DE):DE:=λδ P=>E δ λd=>match d with
 | .str k=>∃d,kds.lookup k=some d/\P d
 |_=>False
section
variable {X:Cx}{K:Frag}{x:Str}{kds:List (Str×D)}{i:Expr}{ty:TE}{pos pos':Pos}
theorem pc_notInC (hg:Gl X x)(hm:DicC X.w X.K X.mg x kds)(hi:PE X i ty)(hd:(x==("__debug__":Str))=false:=by decide): PC X .NotIn i (.Name x pos) (tNotInC kds ty):=by
 intro pins s Y H Q I h
 obtain⟨a,es,n,e,lk,kl,sm,fnd⟩:=hm
 refine thn (hi pins s Y H _ I h) λiv s1 ⟨y,H1,I1,ry,k,ey,q1⟩=>?_
 subst ey
 refine thn (pe_glob (v:=.ref a) hg e rfl hd pins s1 Y H1 (λx H2=>x = .ref a/\Q (.bl (kds.lookup k).isNone) H2) I1 ⟨rfl,q1⟩) λu s2 ⟨x,H2,I2,rx,ex,q2⟩=>?_
 subst ex
 obtain rfl:u=Value.ref a:=rx
 obtain⟨t,rfl⟩:=ry
 refine wpAny_notIn_of (strKind_is X.prog X.w k t) sm (PySem.W.mapOf_K I2.kIn lk kl) ?_
 refine⟨.bl (kds.lookup k).isNone,H2,I2.tok _,?_,q2⟩
 have f:=fnd k
 split at f
 .rename_i d hl
  obtain⟨b,f1,_⟩:=f
  rw[hl]
  rw[f1];rfl
 .rename_i hl
  rw[hl]
  rw[f];rfl
theorem pe_getC (hg:Gl X x)(hm:DicC X.w X.K X.mg x kds)(hi:PE X i ty)(hs:PlainIx i)(hd:(x==("__debug__":Str))=false:=by decide): PE X (.Subscript (.Name x pos') i pos) (tGetC X.K kds ty):=by
 intro pins s Y H Q I h
 obtain⟨a,es,n,e,lk,kl,sm,fnd⟩:=hm
 refine Subscript_ (thn (pe_glob (v:=.ref a) hg e rfl hd pins s Y H (λx H2=>x = .ref a/\tGetC X.K kds ty Y H2 Q) I ⟨rfl,h⟩) λu s1 ⟨x,H1,I1,rx,ex,q1⟩=>?_)
 subst ex
 obtain rfl:u=Value.ref a:=rx
 refine thn (hi pins s1 Y H1 _ I1 q1) λiv s2 ⟨y,H2,I2,ry,k,d,ey,hl,q2⟩=>?_
 subst ey
 obtain⟨t,rfl⟩:=ry
 have f:=fnd k
 rw[hl]at f
 obtain⟨b,f1,f2⟩:=f
 have hm:=PySem.W.mapOf_K (prog:=X.prog) I2.kIn lk kl
 exact tail_any hm.typeIs slot_dict_getitem.lookup (wpAny_getItem_of (strKind_is X.prog X.w k t) hm f1 ⟨.ref b,H2,I2.tok _,rfl,q2 _ f2⟩) (hs _ _)
theorem sF_notInC (h:SimF K t E): SimF K (tNotInC kds t) (dNotInC kds E):=λF0 H0 F H Y δ P Q e w q=>h F0 H0 F H Y δ _ _ e w λd v F' H' p x r=>by
 split at p
 .obtain rfl:v = .str _:=r
  exact⟨_,rfl,q _ _ F' H' p x rfl⟩
 .exact p.elim
theorem sF_getC (h:SimF K t E): SimF K (tGetC K kds t) (dGetC kds E):=λF0 H0 F H Y δ P Q e w q=>h F0 H0 F H Y δ _ _ e w λd v F' H' p x r=>by
 split at p
 .obtain rfl:v = .str _:=r
  obtain⟨d',hl,p⟩:=p
  exact⟨_,d',rfl,hl,λu hu=>q _ _ F' H' p x (hu F')⟩
 .exact p.elim
end
def capN:List Str->List (Option Nat)->List Str
 |x::N,some _::ix=>x::capN N ix
 |_::N,none::ix=>capN N ix
 |_,_=>[]
theorem CapOf.mem:∀{N:List Str} {ix:List (Option Nat)},CapOf X scope N ix->∀x∈capN N ix,X.env.kindOf x=some .cell∨X.env.kindOf x=some .free
 | [],[],_,x,hx=>by cases hx
 |y::N,none::ix,h,x,hx=>CapOf.mem (show CapOf X scope N ix from h) x hx
 |y::N,some i::ix,h,x,hx=>by
  obtain⟨h0,h1⟩:=(show (X.N[i]?=some y/\scope.names.lookup y=some .free/\(X.env.kindOf y=some .cell∨X.env.kindOf y=some .free))/\CapOf X scope N ix from h)
  rcases List.mem_cons.mp (show x∈y::capN N ix from hx) with z |z
  .rw [z];exact h0.2.2
  .exact CapOf.mem h1 x z
 | [],_::_,h,_,_=>h.elim
 |_::_,[],h,_,_=>by cases h
theorem BlkScope.ofCap (cap:CapOf X sc N ix)(h1:sc.kind = .function)(h2:∀y∈sc.names,y.2≠.cell)(h3:∀y∈sc.names,y.2 = .free->y.1∈capN N ix)(h4:∀y∈sc.names,y.2 = .local->sc.names.lookup y.1=some .local): BlkScope X.env.scope sc:=
 ⟨h1,h2,λy hy e=>cap.mem y.1 (h3 y hy e),h4⟩
abbrev cellO:Obj:={cls:=.type "cell",data:=.cell none}
structure Blk1 (outer scope:Scope) (z:Str):Prop where
 kind:scope.kind = .function
 lay:∀n acc,cellsFrom n scope.names acc=(z,n)::acc
 push:∀h,pushCells h scope.names=h.push cellO
 cell:∀y∈scope.names,y.2 = .cell->y.1=z
 look:scope.names.lookup z=some .cell
 nofr:∀y∈scope.names,y.2 = .free->y.1≠z
 free:∀y∈scope.names,y.2 = .free->outer.names.lookup y.1=some .cell∨outer.names.lookup y.1=some .free
 names:∀y∈scope.names,y.2 = .local->scope.names.lookup y.1=some .local
abbrev Cx.blk1 (X:Cx)(scope:Scope)(z:Str)(N:List Str)(fp:List Addr)(s:Shared)(H:Hp):Cx:=
 {X with N:=N,s₀:=s,H₀:=H,env:=compEnvC scope ((z,s.heap.objs.size+1)::freeL scope X.env) s.heap.objs.size X.env,outer:=X.stack,ex:=fp,fn:=λx=>x==z,pn:=[],xe:=λ_ _=>False}
section
variable {M:Model}{A:Around}{E:Value->Shared->Prop}{s:Shared}
theorem newEnv1 {Q:Env->Shared->Prop}(S:Blk1 outerS scope z)
  (hQ:Q {scope,locals:=s.heap.objs.size,globals,cells:=(z,s.heap.objs.size+1)::cl,qual,func:=none,code:=outer.code,frame:=outer.frame,builtins:=outer.builtins} {s with heap:=(s.heap.push {cls:=.type "dict",data:=.dict #[]}).push cellO}):
  wpAny M A (newFunctionEnv scope globals cl [] qual none .none (some outer)) Q E s:=by
 simp only[newFunctionEnv,Option.isSome_some,if_true]
 refine wpAny_bind (wpAny_alloc ?_)
 refine wpAny_bind (wpAny_layCells _ (λname kind cells=>by cases hkc:kind==NameKind.cell<;>simp) _ _ _ _ ?_)
 rw[S.lay,S.push]
 rw[show ({s with heap:=s.heap.push {cls:=.type "dict",data:=.dict #[]}}:Shared).heap.objs.size=s.heap.objs.size+1 from Heap.size_push ..]
 refine wpAny_bind ?_
 exact wpAny_pure (wpAny_pure hQ)
end
section
variable {X:Cx}{pins:List (Addr×Obj)}{Y:St}{H:Hp}{s:Shared}{scope:Scope}{N:List Str}{ix:List (Option Nat)}{fp:List Addr}{z:Str}
theorem blk1_cell (ok:X.Ok)(hf:∀y∈scope.names,y.2 = .free->X.env.scope.names.lookup y.1=some .cell∨X.env.scope.names.lookup y.1=some .free)(h:(freeL scope X.env).lookup x=some c): X.env.cells.lookup x=some c:=by
 rw[freeL_lookup]at h
 split at h
 .rename_i ha
  obtain⟨y,hy,e⟩:=List.any_eq_true.mp ha
  rw[Bool.and_eq_true,beq_iff_eq,beq_iff_eq]at e
  obtain⟨e1,e2⟩:=e
  subst e1
  obtain⟨c',hc'⟩:=ok.has y.1 (hf y hy e2)
  rw[hc']at h ⊢
  exact h
 .cases h
theorem look1 (h:((z,a)::l).lookup x=some c): (x=z/\c=a)∨(x≠z/\l.lookup x=some c):=by
 rw[List.lookup_cons]at h
 by_cases q:x=z
 .subst q
  rw[beq_self_eq_true]at h
  exact .inl ⟨rfl,(Option.some.inj h).symm⟩
 .rw [beq_eq_false_iff_ne.mpr q]at h
  exact .inr ⟨q,h⟩
theorem look1_ne (h:x≠z): ((z,a)::l).lookup x=l.lookup x:=by
 rw[List.lookup_cons,beq_eq_false_iff_ne.mpr h]
theorem Inv.blk1Ok (I:Inv X pins Y H s)(S:Blk1 X.env.scope scope z)(hf:∀b∈fp,FpOk X pins H b)(hlt:∀b∈fp,b<s.heap.objs.size): (X.blk1 scope z N fp s H).Ok where
 mod:=I.ok.mod
 kind:=S.kind
 glob:=I.ok.glob
 blt:=I.ok.blt
 above:=Nat.le_refl _
 inj := λx y c h1 h2=>by
  have old:∀{x:Str},(freeL scope X.env).lookup x=some c->c<s.heap.objs.size:=λ{x} h=>by
   obtain⟨v,q⟩:=I.cell x c (blk1_cell I.ok S.free h)
   exact q.lt
  rcases look1 h1 with⟨a1,a2⟩ | ⟨a1,a2⟩<;>rcases look1 h2 with⟨b1,b2⟩ | ⟨b1,b2⟩
  .rw [a1,b1]
  .have q:=old b2;rw[a2]at q;exact absurd (Nat.lt_of_succ_lt q) (Nat.lt_irrefl _)
  .have q:=old a2;rw[b2]at q;exact absurd (Nat.lt_of_succ_lt q) (Nat.lt_irrefl _)
  .exact I.ok.inj x y c (blk1_cell I.ok S.free a2) (blk1_cell I.ok S.free b2)
 has := λx hx=>by
  by_cases q:x=z
  .subst q
   exact⟨_,by show List.lookup x ((x,s.heap.objs.size+1)::_)=_;rw[List.lookup_cons,beq_self_eq_true]⟩
  have hx':(relabel scope X.env).names.lookup x=some .cell∨(relabel scope X.env).names.lookup x=some .free:=hx
  rw[relabel_lookup]at hx'
  cases e:scope.names.lookup x with
  |none=>rw[e]at hx';simp at hx'
  |some k=>
   have hm:=PySem.mem_of_lookup e
   have hk:k = .free:=by
    by_cases hk:k = .free
    .exact hk
    .exfalso
     have hb:(k==NameKind.free)=false:=by simpa using hk
     have hc:k≠.cell:=λy=>q (S.cell _ hm y)
     have e2:(if (k==NameKind.free && X.env.scope.kind == .function && X.env.kindOf x==some .cell)=true then NameKind.cell else k)=k:=if_neg (by rw[hb,Bool.false_and];exact Bool.false_ne_true)
     rw[e,Option.map_some,e2]at hx'
     rcases hx' with z |z
     .exact hc (Option.some.inj z)
     .exact hk (Option.some.inj z)
   subst hk
   obtain⟨c,h1,_⟩:=blk_free I.ok e (S.free _ hm rfl)
   exact⟨c,(look1_ne q).trans h1⟩
 cab:=λx c h e=>by
  rcases look1 e with⟨_,a2⟩ | ⟨a1,_⟩
  .rw [a2];exact Nat.le_succ _
  .exact absurd (beq_iff_eq.mp h) a1
 hd:=I.ok.hd
 frames:=I.ok.frames
 stk:=.inl rfl
 exf:=λb hb=>⟨Nat.ne_of_lt (hlt b hb),λx c h=>by
  rcases look1 h with⟨_,a2⟩ | ⟨_,a2⟩
  .intro q;have q2:=hlt b hb;rw[<- q,a2]at q2;exact absurd (Nat.lt_of_succ_lt q2) (Nat.lt_irrefl _)
  .exact (hf b hb).2.2.2.2.1 x c (blk1_cell I.ok S.free a2)⟩
 bs:=I.bs
 bsz:=Nat.le_trans I.ok.bsz I.sz
 noex:=λb o e hb=>by
  rcases (hf b hb).2.2.2.1 with z |z
  .exact I.ok.noex b o e z
  .exact absurd (Nat.lt_of_lt_of_le (Heap.lt_size e) (Nat.le_trans I.ok.bsz z)) (Nat.lt_irrefl _)
 exfs:=λb hb h=>by
  rcases List.mem_cons.mp (I.stkSub b h) with z |z
  .exact (hf b hb).2.1 z
  .exact (hf b hb).2.2.1 z
 funs:=I.stack
 frf:=I.stkFree
theorem Inv.blk1 (I:Inv X pins Y H s)(S:Blk1 X.env.scope scope z)(cap:CapOf X scope N ix)(hf:∀b∈fp,FpOk X pins H b)(hlt:∀b∈fp,b<s.heap.objs.size)
  (hns:h₁.Ns s.heap.objs.size λ_=>none) (hcl:h₁.IsCell (s.heap.objs.size+1) none) (keep:∀b o,s.heap.get? b=some o->h₁.get? b=some o): Inv (X.blk1 scope z N fp s H) [] (blkσ ix Y) H {s with heap:=h₁,toks:=t}:=by
 obtain⟨hl,hcap⟩:=cap.get
 refine⟨I.blk1Ok S hf hlt,rfl,I.bare,Un.kept keep,⟨_,hns,λj x v e1 e2 e3=>?_⟩,λx c e=>?_,I.hok.fresh (Nat.le_refl _),λx c e=>?_,λp hp=>absurd (show p∈([]:List (Addr×Obj)) from hp) (by simp),I.hok.kept keep,by unfold blkσ;rw[List.length_map];exact hl.symm⟩
 .obtain ⟨i,h1,h2⟩:∃i,ix[j]?=some (some i)/\Y[i]?=some (some v):=by
   unfold blkσ at e2
   rw[List.getElem?_map]at e2
   cases q:ix[j]? with
   |none=>rw[q]at e2;cases e2
   |some o=>
    rw[q]at e2
    cases o with
    |none=>simp at e2
    |some i=>
     refine⟨i,rfl,?_⟩
     cases q2:Y[i]? with
     |none=>simp[q2]at e2
     |some o2=>simp[q2]at e2;rw[e2]
  obtain⟨y,n1,n2,n3,n4⟩:=hcap j i h1
  have hxy:x=y:=by rw[e1]at n1;exact Option.some.inj n1
  subst hxy
  have hxz:x≠z:=S.nofr _ (PySem.mem_of_lookup n3) rfl
  obtain⟨m',hn',hl'⟩:=I.loc
  have vis:Vis X.env.scope x:=by rcases n4 with k |k;exact .inr (.inl k);exact .inr (.inr k)
  obtain⟨u,r,l⟩:=hl' i x v n2 h2 vis
  refine⟨u,r,.inr ⟨?_,?_⟩⟩
  .show (relabel scope X.env).names.lookup x=some .cell∨(relabel scope X.env).names.lookup x=some .free
   rw[relabel_lookup,n3]
   by_cases hc:(NameKind.free==NameKind.free && X.env.scope.kind == .function && X.env.kindOf x==some .cell)=true
   .left;simp only[Option.map_some,if_pos hc]
   .right;simp only[Option.map_some,if_neg hc]
  .obtain ⟨c,c1,c2⟩:=blk_free I.ok n3 n4
   refine⟨c,(look1_ne hxz).trans c1,?_⟩
   rcases l with⟨hk,_⟩ | ⟨_,c',hc',z⟩
   .rcases n4 with k |k
    .rw [hk]at k;cases k
    .rw [hk]at k;cases k
   .rw [c2]at hc';cases hc'
    obtain⟨ob,ho,hd⟩:=z
    exact⟨ob,keep _ _ ho,hd⟩
 .rcases look1 e with⟨_,a2⟩ | ⟨_,a2⟩
  .rw [a2];exact⟨_,hcl⟩
  .obtain ⟨v,ob,ho,hd⟩:=I.cell x c (blk1_cell I.ok S.free a2)
   exact⟨v,ob,keep _ _ ho,hd⟩
 .rcases look1 e with⟨_,a2⟩ | ⟨_,a2⟩
  .rw [a2];exact I.hok.fresh (Nat.le_succ _)
  .exact I.freeC x c (blk1_cell I.ok S.free a2)
theorem Inv.unblk1 (I:Inv X pins Y H s)(hf:∀b∈fp,FpOk X pins H b)(J:Inv (X.blk1 scope z N fp s H) pins' Y' H' s'): Inv X pins Y H' s':=
 I.call' J.os J.base J.hok J.bare λb hb=>⟨(hf b hb).2.2.2.1,(hf b hb).2.1,(hf b hb).2.2.2.2.1,(hf b hb).2.2.2.2.2⟩
end
section
variable {X:Cx}{tg elt iter:Expr}{scope:Scope}{N:List Str}{ix:List (Option Nat)}{wi:TI}{g:TG}{te:TE}{pos:Pos}{z:Str}
theorem comp_core1 {RR:Value->Addr->Result->Shared->Prop}(hc:X.calm=true)(hi:PI X tg iter wi)(S:Blk1 X.env.scope scope z)(cap:CapOf X scope N ix)
  (hg:∀fp s H,PG (X.blk1 scope z N fp s H) tg g) (he:∀fp s H,PE (X.blk1 scope z N fp s H) elt te) (I:Inv X pins Y H s) (h:tComp wi ix g te Y H Q)
  (hRR:∀D C H' s',Inv X pins Y H' s'->FpOk X pins H' C->(∃m,s'.heap.Ns C m)->Q (.ref D) H'->RR (.ref D) C (.ok .next) s'):
  wpAny (model X.prog X.w) X.A (eval iter X.env) (λx s₁=>wpAny (model X.prog X.w) X.A (pyIter x) (λit s₂=>wpAny (model X.prog X.w) X.A (newList []) (λacc s₃=>
   wpAny (model X.prog X.w) X.A (newFunctionEnv scope X.env.globals (freeL scope X.env) [] X.env.qual none .none (some X.env)) (λcenv s₄=>
    codeAny (model X.prog X.w) X.A (.compStart (.ListComp elt [⟨tg,iter,[],0⟩] scope pos) 0 it acc {cenv with scope:=relabel scope X.env}) (RR acc cenv.locals) s₄) X.xe s₃) X.xe s₂) X.xe s₁) X.xe s:=by
 refine thn (hi pins s Y H _ I h) λv s1 h1=>thn h1 λitv s2 h2=>?_
 obtain⟨it,fp,tn,J,H2,e,I2,T,st2,f2,R⟩:=h2
 subst e
 refine wpAny_newObj_type (newEnv1 S ?_)
 have I3:Inv X pins Y (upd H2 s2.heap.objs.size (.lst [])) {s2 with heap:=s2.heap.push {cls:=.type "list",data:=.seq ([]:List Value).toArray},toks:=s2.toks}:=I2.lnew .nil (Nat.zero_le _)
 have hD:H2 s2.heap.objs.size=none:=I2.fresh
 have lt2:∀b∈fp,b<s2.heap.objs.size:=λb hb=>by obtain⟨o,e,_⟩:=T.obj 0 _ st2 b hb;exact Heap.lt_size e
 obtain⟨W,⟨m0,w0⟩,turn⟩:=R s2.heap.objs.size hD
 generalize hs3:({s2 with heap:=s2.heap.push {cls:=.type "list",data:=.seq ([]:List Value).toArray},toks:=s2.toks}:Shared)=s3 at I3
 have e3:s3.heap=s2.heap.push {cls:=.type "list",data:=.seq ([]:List Value).toArray}:=by rw[<- hs3]
 have sz3:s3.heap.objs.size=s2.heap.objs.size+1:=by rw[e3,Heap.size_push]
 have f3:∀b∈fp,FpOk X pins (upd H2 s2.heap.objs.size (.lst [])) b:=λb hb=>⟨by rw[upd_ne (Nat.ne_of_lt (lt2 b hb))];exact (f2 b hb).1,(f2 b hb).2⟩
 have lt3:∀b∈fp,b<s3.heap.objs.size:=λb hb=>by rw[sz3];exact Nat.lt_succ_of_lt (lt2 b hb)
 generalize hh1:(s3.heap.push {cls:=.type "dict",data:=.dict #[]}).push cellO=h₁
 have hns₁:h₁.Ns s3.heap.objs.size λ_=>none:=by
  rw[<- hh1]
  exact (Heap.Ns.new s3.heap (.type "dict")).keeps λb o e=>Heap.get?_push_of_some _ e
 have hcl₁:h₁.IsCell (s3.heap.objs.size+1) none:=by
  rw[<- hh1]
  have:=Heap.get?_push_size (s3.heap.push {cls:=.type "dict",data:=.dict #[]}) (o:=cellO) rfl
  rw[Heap.size_push]at this
  exact⟨_,this,rfl⟩
 have kp3:∀b o,s3.heap.get? b=some o->h₁.get? b=some o:=λb o e=>by
  rw[<- hh1]
  exact Heap.get?_push_of_some _ (Heap.get?_push_of_some _ e)
 have J0:=I3.blk1 (t:=s3.toks) S cap f3 lt3 hns₁ hcl₁ kp3
 have keep1:∀b o,s2.heap.get? b=some o->h₁.get? b=some o:=λb o e=>kp3 b o (by rw[e3];exact Heap.get?_push_of_some _ e)
 have st1:tn 0 h₁:=T.keep 0 _ _ st2 λb _ o e=>keep1 b o e
 have stat:∀{H':Hp},(∀b∈fp,H' b=none)->∀b∈fp,FpOk (X.blk1 scope z N fp s3 (upd H2 s2.heap.objs.size (.lst []))) [] H' b:=λ{H'} hn b hb=>by
  refine⟨hn b hb,Nat.ne_of_lt (lt3 b hb),λz=>?_,.inl hb,λx c e=>?_,λp hp=>absurd (show p∈([]:List (Addr×Obj)) from hp) (by simp)⟩
  .rcases List.mem_cons.mp (I3.stkSub b z) with y |y
   .exact (f2 b hb).2.1 y
   .exact (f2 b hb).2.2.1 y
  .rcases look1 e with⟨_,a2⟩ | ⟨_,a2⟩
   .intro q;have q2:=lt3 b hb;rw[<- q,a2]at q2;exact absurd (Nat.lt_of_succ_lt q2) (Nat.lt_irrefl _)
   .exact (f2 b hb).2.2.2.2.1 x c (blk1_cell I.ok S.free a2)
 have loop:∀s4:Shared,s4={s3 with heap:=h₁,toks:=s3.toks}->
   codeAny (model X.prog X.w) X.A (.compLoop (.ListComp elt [⟨tg,iter,[],0⟩] scope pos) 0 (.ref it) (.ref s2.heap.objs.size) (compEnvC scope ((z,s3.heap.objs.size+1)::freeL scope X.env) s3.heap.objs.size X.env)) (RR (.ref s2.heap.objs.size) s3.heap.objs.size) s4:=by
  rintro s4 rfl
  refine compLoop_any (λn s'=>∃i Y' ys H',Inv (X.blk1 scope z N fp s3 (upd H2 s2.heap.objs.size (.lst []))) [] Y' H' s'/\tn i s'.heap/\(∀b∈fp,H' b=none)/\W i n Y' ys H') ?_ m0 ⟨0,_,[],_,J0,st1,λb hb=>(f3 b hb).1,w0⟩
  rintro n s' ⟨i,Y',ys,H',I',st',fr',w'⟩
  rcases turn i n Y' ys H' w' with⟨stop,fin⟩ | ⟨hy,go,step⟩
  .refine thn (T.done (X.blk1 scope z N fp s3 (upd H2 s2.heap.objs.size (.lst []))) rfl rfl rfl hc i [] s' Y' H' _ I' (stat fr') st' stop) λr s5 ⟨hr,I5⟩=>?_
   subst hr
   obtain⟨m,hn,_⟩:=I5.loc
   exact hRR _ _ H' s5 (I3.unblk1 f3 I5) (I3.fpOk (Nat.le_refl _) I5.free) ⟨m,hn⟩ fin
  .refine thn (T.item (X.blk1 scope z N fp s3 (upd H2 s2.heap.objs.size (.lst []))) rfl rfl rfl hc i [] s' Y' H' _ I' (stat fr') st' go) λr s5 ⟨u,hr,h5⟩=>?_
   subst hr
   refine thn h5 λ_ s6 ⟨x,H6,I6,r6,y6,st6,fr6⟩=>?_
   have I6':=I6.pinned (stat fr6) (T.obj _ _ st6)
   refine thn (hg fp s3 _ _ s6 Y' H6 x u _ I6' r6 (step x H6 y6)) λ_ s7 ⟨Y7,H7,I7,q7⟩=>?_
   refine thn (he fp s3 _ _ s7 Y7 H7 _ I7 q7) λyv s8 ⟨y,H8,I8,r8,hl8,m',hm',w8⟩=>?_
   refine thn (mt_append _ s8 Y7 H8 (.ref s2.heap.objs.size) [y] (.ref s2.heap.objs.size) [yv] (λ_ H9=>H9=upd H8 s2.heap.objs.size (.lst (ys++[y]))) I8 rfl (.cons r8 .nil) ⟨_,ys,y,rfl,rfl,hl8,hy,rfl⟩) λ_ s9 ⟨_,H9,I9,_,e9⟩=>?_
   subst e9
   refine⟨m',hm',i+1,Y7,ys++[y],_,I9.unpinned,T.keep _ _ _ st6 λb hb o e=>(I9.pin (b,o) (List.mem_append_right _ (List.mem_append_right _ (mem_pinsAt hb e)))).1,λb hb=>?_,w8⟩
   obtain⟨o,e,_⟩:=T.obj _ _ st6 b hb
   exact (I9.pin (b,o) (List.mem_append_right _ (List.mem_append_right _ (mem_pinsAt hb e)))).2.1
 have fin:=loop _ rfl
 exact codeAny_compStart_list fin (T.self _ 0 _ _ _ st1 fin)
theorem blk1_clos (S:Blk1 X.env.scope scope z)(ok:X.Ok): closureFor scope X.env=pure (freeL scope X.env):=closureFor_free λx hx e=>ok.has x.1 (S.free x hx e)
theorem pe_comp1 (hc:X.calm=true)(hi:PI X tg iter wi)(S:Blk1 X.env.scope scope z)(cap:CapOf X scope N ix)(hg:∀fp s H,PG (X.blk1 scope z N fp s H) tg g)(he:∀fp s H,PE (X.blk1 scope z N fp s H) elt te)
  (hs:∀x,foldedSetIterable iter X.env x=pure x:=by intro _;rfl): PE X (.ListComp elt [⟨tg,iter,[],0⟩] scope pos) (tComp wi ix g te):=by
 intro pins s Y H Q I h
 refine wpAny_comprehension_free rfl hs (blk1_clos S I.ok) S.kind S.names (comp_core1 (RR:=λacc C=>compPost (model X.prog X.w) X.A X.xe none (EP X pins Y Q) acc C) hc hi S cap hg he I h λD C H' s' I' f' hn q=>?_)
 obtain⟨m,hn⟩:=hn
 exact⟨m,hn,λh' hs'=>⟨.ref D,H',I'.frameGone f' hs',rfl,q⟩⟩
theorem pe_compC (hc:X.calm=true)(hi:PI X tg iter wi)(cap:CapOf X scope N ix)(h1:scope.kind = .function)(h2:∀y∈scope.names,y.2≠.cell)(h3:∀y∈scope.names,y.2 = .free->y.1∈capN N ix)(h4:∀y∈scope.names,y.2 = .local->scope.names.lookup y.1=some .local)
  (hg:∀fp s H,PG (X.blk scope N fp s H) tg g) (he:∀fp s H,PE (X.blk scope N fp s H) elt te)
  (hs:∀x,foldedSetIterable iter X.env x=pure x:=by intro _;rfl): PE X (.ListComp elt [⟨tg,iter,[],0⟩] scope pos) (tComp wi ix g te):=pe_comp hc hi (BlkScope.ofCap cap h1 h2 h3 h4) cap hg he hs
end
section
variable {X:Cx}
end
section
variable {K:Frag}
end
def g1 {α:Type}(l r:List α):List α->List α->List α
 | [a],[b]=>a::(l++b::r)
 |_,_=>[]
section
variable {P:Program}{w:World}{K:Frag}{mg:Str->Option Value}{base:Heap}{x:Str}{k:Nat}{ps:List Str}{sp:Sp}{d0 d1:V}
end
section
variable {X:Cx}{x:Str}{k:Nat}{ps:List Str}{sp:Sp}{d0 d1:V}{e c:Expr}{t tk:TA}{p pos kp:Pos}{nm:Str}
end
section
variable {K:Frag}
end
section
variable {K:Frag}
end
section
variable {K:Frag}{F0 H0 F H F' H':Hp}{Y:St}{δ:Dst}{A:Nat->List Addr}{i:Nat}
end
section
variable {K:Frag}{c f m c2:Str}{ns ns2:List Str}{i j:Nat}
end
end L2
namespace PySem
section
variable {prog:Program}{w:World}{A:Around}{R:Result->Shared->Prop}{I:Addr}{fp wr:List Addr}{G:Array GenState->Array GenState->Prop}{n:Nat}{P:Nat->Value->Prop}{St:Nat->Shared->Prop}
end
section
variable {prog:Program}{w:World}{A:Around}{E:Value->Shared->Prop}{s:Shared}
end
end PySem
namespace L2
open PySem PySem.Spec PyProof.Rows
section
variable {X:Cx}
end
section
variable {K:Frag}{c f:Str}{ns:List Str}{i j:Nat}
end
end L2
namespace PySem.W
open PySem PySem.Spec PySem.Calls PyProof.Rows Builtin Builtin.ObjectAttr Builtin.Getset_descriptor
section
variable {prog:Program}{w:World}{A:Around}{E:Value->Shared->Prop}{s:Shared}{K:Frag}{x D:Addr}{ox:Obj}
end
end PySem.W
namespace L2
open PySem PySem.Spec PyProof.Rows PyProof.V PySem.W
section
variable {X:Cx}
end
def SimX (K:Frag)(F0 H0:Hp)(t:TS)(T:DS):Prop:=∀F H Y δ De En,EnvR K F0 H0 F H Y δ->Lk K F0 H0 De En->T De δ->t En Y H
section
variable {K:Frag}{F0 H0:Hp}{t u:TS}{T U:DS}
theorem SimS.x (h:SimS K t T): SimX K F0 H0 t T:=λF H Y δ De En=>h F0 H0 F H Y δ De En
theorem sP_seq (h:SimX K F0 H0 t T)(g:SimX K F0 H0 u U): SimX K F0 H0 (tSeq t u) (sSeq T U):=λF H Y δ De E e l w=>
 h F H Y δ {De with nx:=U De} _ e ⟨λF1 H1 Y1 δ1 e1 w1=>g F1 H1 Y1 δ1 De E e1 l w1,l.bk,l.ct,l.rt⟩ w
end
section
variable {P:Program}{w:World}{K:Frag}{mg:Str->Option Value}{base:Heap}{N:List Str}{qual:Str}{scope:Scope}{f:Addr}{cd:Value}{A:Around}{outer:List Env}{s:Shared}{H:Hp}{E:XK}
end
section
variable {K:Frag}{F0 H0 F H:Hp}{Y:St}{δ:Dst}{A:Nat->List Addr}
end
open PySem PySem.Spec PyProof.Rows
section
variable {X:Cx}{K:Frag}
end
open PySem PySem.Spec PyProof.Rows PyProof.V PySem.W
section
variable {X:Cx}
end
section
variable {K:Frag}{X:Cx}
end
section
variable {M:Model}{A:Around}{E:Value->Shared->Prop}{s:Shared}
end
section
variable {P:Program}{w:World}{K:Frag}{mg:Str->Option Value}{base:Heap}{N:List Str}{qual:Str}{scope:Scope}{f:Addr}{cd:Value}{A:Around}{outer:List Env}{s:Shared}{H:Hp}{E:XK}
end
section
variable {P:Program}{w:World}{K:Frag}{mg:Str->Option Value}{base:Heap}{N0:List Str}{qual:Str}{scope0:Scope}{f:Addr}{cd:Value}{A:Around}{outer:List Env}{s0:Shared}{H0:Hp}{E:XK}
variable {X:Cx}{tg iter e:Expr}{es:List Expr}{scope:Scope}{N:List Str}{ix:List (Option Nat)}{wi:TI}{g:TG}{ta:TA}{pos p cpos:Pos}{x:Str}{k:Nat}{ps:List Str}{sp:Sp}
end
def SimOx (K:Frag)(F0 H0:Hp)(t:TE)(E:DO):Prop:=∀F H Y δ P Q,EnvR K F0 H0 F H Y δ->E δ P->(∀r v F' H',P r->Ext F H F' H'->RepN K H F' H' r v->Q v H')->t Y H Q
section
variable {K:Frag}{F0 H0:Hp}
end
open PySem PySem.Spec PyProof.Rows
section
variable {X:Cx}{K:Frag}
end
open PySem PySem.Spec PyProof.Rows PyProof.V PySem.W
section
variable {K:Frag}{h:Heap}{mg:Str->Option Value}{x m q c:Str}{st:Stmt}{f T C:Addr}{od an odT:Option Addr}{sl slT:Array (Option Value)}{oc kV dc pm cd ct ocT:Value}{nT:Nat}{ds:Array Value}
theorem dmk (X:K.In h)(G:h.Ns mainGlobals mg)(a:PySem.W.nsIn K mainGlobals x=some (some (.ref f)):=by k_is)(l:K.lookup f=some ⟨oc,od,.func (PySem.W.fnOf x x (defArgs st) (Xa4 st) (Xac st) .none kV dc pm an cd ct),sl⟩:=by k_is)(d:PySem.W.codeIn K cd x=true:=by k_is)(k:PySem.W.keepIn K (.ref f)=true:=by k_is):
  DefAt K mg x st f (PySem.W.fnOf x x (defArgs st) (Xa4 st) (Xac st) .none kV dc pm an cd ct):=⟨fun_mk l d k,PySem.W.mg_of X G a⟩
theorem dmkD (X:K.In h)(G:h.Ns mainGlobals mg)(a:PySem.W.nsIn K mainGlobals x=some (some (.ref f)):=by k_is)(l:K.lookup f=some ⟨oc,od,.func (PySem.W.fnOf x x (defArgs st) (Xa4 st) (Xac st) (.ref T) kV dc pm an cd ct),sl⟩:=by k_is)(d:PySem.W.codeIn K cd x=true:=by k_is)(k:PySem.W.keepIn K (.ref f)=true:=by k_is)(dl:K.lookup T=some ⟨ocT,odT,.seq ds nT,slT⟩:=by k_is):
  DefAtD K mg x st f (PySem.W.fnOf x x (defArgs st) (Xa4 st) (Xac st) (.ref T) kV dc pm an cd ct) T ds:=⟨⟨_,_,_,_,_,_,_,_,_,rfl,l,d⟩,⟨_,_,dl,rfl⟩,k,PySem.W.mg_of X G a⟩
theorem dnm (X:K.In h)(G:h.Ns mainGlobals mg)(a:PySem.W.nsIn K mainGlobals x=some (some (.ref f)):=by k_is): NsOf K mg x:=⟨_,a,PySem.W.mg_of X G a⟩
theorem dcls (X:K.In h)(aC:PySem.W.nsIn K mainGlobals c=some (some (.ref C)):=by k_is)(pg:PySem.W.plainGet K C Str.empty=true:=by k_is)(hd:PySem.W.hasDictIn K C=true:=by k_is)(po:PySem.W.plainOver K C=true:=by k_is)(sa:PySem.W.findIn K (.ref C) "__setattr__"=some (some (.builtin "object.__setattr__")):=by k_is)(hn:∀f∈ns,PySem.W.findIn K (.ref C) f=some none)(h1:ns.Nodup)(h2:ns.length<1000): ClsV K c ns:=
 ⟨⟨C,aC,⟨pg,hd,po,sa⟩,hn⟩,h1,h2⟩
theorem dmet (X:K.In h)(CV:ClsV K c ns)(aC:PySem.W.nsIn K mainGlobals c=some (some (.ref C)):=by k_is)(a:PySem.W.findIn K (.ref C) m=some (some (.ref f)):=by k_is)(i:PySem.W.isFn K (.ref f)=true:=by k_is)(l:K.lookup f=some ⟨oc,od,.func (PySem.W.fnOf m q (defArgs st) (Xa4 st) (Xac st) .none kV dc pm an cd ct),sl⟩:=by k_is)(d:PySem.W.codeIn K cd q=true:=by k_is)(k:PySem.W.keepIn K (.ref f)=true:=by k_is):
  MetAt K c m q st f (PySem.W.fnOf m q (defArgs st) (Xa4 st) (Xac st) .none kV dc pm an cd ct):=by
 obtain⟨C',e,Z,_⟩:=CV.ex
 rw[aC]at e
 cases e
 exact⟨fun_mk l d k,⟨_,aC,Z,⟨a,i,k⟩⟩⟩
theorem dini (X:K.In h)(G:h.Ns mainGlobals mg)(aC:PySem.W.nsIn K mainGlobals c=some (some (.ref C)):=by k_is)(mk:PySem.W.makesIn K C=true:=by k_is)(kc:PySem.W.keepIn K (.ref C)=true:=by k_is)(a:PySem.W.findIn K (.ref C) "__init__"=some (some (.ref f)):=by k_is)(i:PySem.W.isFn K (.ref f)=true:=by k_is)(l:K.lookup f=some ⟨oc,od,.func (PySem.W.fnOf "__init__" q (defArgs st) (Xa4 st) (Xac st) .none kV dc pm an cd ct),sl⟩:=by k_is)(d:PySem.W.codeIn K cd q=true:=by k_is)(k:PySem.W.keepIn K (.ref f)=true:=by k_is):
  Fun K "__init__" q st f (PySem.W.fnOf "__init__" q (defArgs st) (Xa4 st) (Xac st) .none kV dc pm an cd ct)/\MakAt K mg c f:=⟨fun_mk (x := "__init__") l d k,⟨⟨_,aC,⟨mk,a,i,kc⟩,PySem.W.mg_of X G aC⟩⟩⟩
theorem mz (X:K.In h)(G:h.Ns mainGlobals mg)(e:PySem.W.nsIn K mainGlobals n=some none:=by k_is): mg n=none:=PySem.W.mg_none_of X G e
theorem mv (X:K.In h)(G:h.Ns mainGlobals mg)(e:PySem.W.nsIn K mainGlobals n=some (some v):=by k_is): mg n=some v:=PySem.W.mg_of X G e
end
section
variable {K:Frag}
end
section
variable {X:Cx}
end
section
variable {K:Frag}
end
section
variable {K:Frag}
end
section
variable {X:Cx}
end
section
variable {P:Program}{w:World}{K:Frag}{mg:Str->Option Value}{base:Heap}{c m q:Str}{ns:List Str}{st:Stmt}{f:Addr}{fd:FuncData}{N ps:List Str}{k n:Nat}
end
section
variable {K:Frag}
end
end L2
namespace PySem
open Builtin
end PySem
namespace L2
open PySem PySem.Spec PyProof.Rows PyProof.V PySem.W
section
variable {X:Cx}
end
section
variable {K:Frag}
end
section
variable {P:Program}{w:World}{K:Frag}{mg:Str->Option Value}{base:Heap}{N:List Str}
end
section
variable {X:Cx}
end
section
variable {K:Frag}{te ti:TE}{Eo:DO}{Ei:DE}
end
section
variable {X:Cx}
end
section
variable {K:Frag}
end
section
variable {P:Program}{w:World}{K:Frag}{mg:Str->Option Value}{base:Heap}{N:List Str}{qual:Str}{scope:Scope}{f:Addr}{cd:Value}{A:Around}{outer:List Env}{s:Shared}{H:Hp}{E:XK}
end
section
variable {K:Frag}{F0 H0:Hp}{t ta tc:TE}{Ec:DO}{Ea:DE}
theorem sP_fz (h:SimOx K F0 H0 tc Ec): SimOx K F0 H0 tc (dFz (dVal Ec)):=λF H Y δ P Q e w q=>h F H Y δ _ _ e w λr v F1 H1 w1 x1 n1=>by
 obtain⟨F2,x2,_,r2⟩:=n1.frz x1
 exact q _ v F2 H1 w1 x2 (.fz r2)
theorem sP_ret (h:SimOx K F0 H0 tc Ec): SimX K F0 H0 (tRet tc) (sRet Ec):=λF H Y δ De En e l w=>h F H Y δ _ _ e w λr v F' H' p x n=>l.rt F' H' r v (e.ext.trans x) (n.old e.ext.hh) p
theorem sP_set (h:SimOx K F0 H0 tc Ec): SimX K F0 H0 (tAsg tc (gName i)) (sSet i Ec):=λF H Y δ De En e l w=>h F H Y δ _ _ e w λr v F' H' p x n=>l.nx F' H' _ _ (e.put x i n) p
end
section
variable {P:Program}{w:World}{K:Frag}{mg:Str->Option Value}{base:Heap}{N0:List Str}{qual:Str}{scope0:Scope}{f:Addr}{cd:Value}{A:Around}{outer:List Env}{s0:Shared}{H0:Hp}{E:XK}
variable {X:Cx}{tg iter e:Expr}{es:List Expr}{scope:Scope}{N:List Str}{ix:List (Option Nat)}{wi:TI}{g:TG}{ta:TA}{pos p cpos:Pos}{x:Str}{k:Nat}{ps:List Str}{sp:Sp}
end
section
variable {K:Frag}{ti:TE}{Ei:DE}
end
section
variable {K:Frag}{c:Str}{ns:List Str}{i:Nat}
end
structure DER where
 nx:Dst->Prop
 rt:D->Dst->Prop
 xr:Str->Dst->Prop
abbrev DSR:=DER->Dst->Prop
section
variable {K:Frag}{F0 H0:Hp}{E:XK}{t u:TS}{T U:DSR}
end
section
variable {P:Program}{w:World}{K:Frag}{mg:Str->Option Value}{base:Heap}{c m q:Str}{ns:List Str}{st:Stmt}{f:Addr}{fd:FuncData}{N ps:List Str}{k n:Nat}
end
abbrev DEf:=Dst->(D->Dst->Prop)->Prop
abbrev DTf:=Dst->(Bool->Dst->Prop)->Prop
section
variable {K:Frag}{ta tb:TE}{Ea Eb:DEf}{Eb':DE}{ua ub:TT}{Ca Cb:DTf}{t u:TS}{T U:DS}
end
section
variable {X:Cx}
end
section
variable {K:Frag}
end
section
variable {P:Program}{w:World}{K:Frag}{mg:Str->Option Value}{base:Heap}{c m q:Str}{ns:List Str}{st:Stmt}{f:Addr}{fd:FuncData}{N ps:List Str}{k n:Nat}
end
section
variable {K:Frag}{h:Heap}{mg:Str->Option Value}{c wx:Str}{C W:Addr}
theorem t2 (l:K.lookup x=some ⟨.type "tuple",o,.seq #[.int p tp,.int q tq] n,sl⟩)(F:Hp): Rep K F (.tup [.int p,.int q]) (.ref x):=⟨_,[.int p,.int q],rfl,.inr ⟨_,_,_,l,rfl,rfl,sz_le (show 2<=1000000 by decide),.cons ⟨_,rfl⟩ (.cons ⟨_,rfl⟩ (.nil))⟩,⟨_,_,rfl,rfl,⟨_,_,rfl,rfl,rfl⟩⟩⟩
theorem t5 (l:K.lookup x=some ⟨.type "tuple",o,.seq #[.int p tp,.int q tq,.int r tr,.int u tu,.int v tv] n,sl⟩)(F:Hp): Rep K F (.tup [.int p,.int q,.int r,.int u,.int v]) (.ref x):=⟨_,[.int p,.int q,.int r,.int u,.int v],rfl,.inr ⟨_,_,_,l,rfl,rfl,sz_le (show 5<=1000000 by decide),.cons ⟨_,rfl⟩ (.cons ⟨_,rfl⟩ (.cons ⟨_,rfl⟩ (.cons ⟨_,rfl⟩ (.cons ⟨_,rfl⟩ (.nil)))))⟩,⟨_,_,rfl,rfl,⟨_,_,rfl,rfl,⟨_,_,rfl,rfl,⟨_,_,rfl,rfl,⟨_,_,rfl,rfl,rfl⟩⟩⟩⟩⟩⟩
end
theorem KitV.of2 {K:Frag}{h:Heap}(X:K.In h)(h:∀d∈[D.int 0,.bl true,.non,.str Str.empty,.tup [],.lst [],.dic],∀n∈kitNs,PySem.W.kitOne K (.type d.tyN) (.type n)=some (kitB d n)):KitV K:=by
 refine⟨λd ⟨hd,hd2,hd3⟩ n hn=>?_⟩
 cases d with
 |ty m=>exact absurd rfl (hd m)
 |fn m=>exact absurd rfl (hd2 m)
 |exc m=>exact absurd rfl (hd3.1 m)
 |obj c ns ds=>exact absurd rfl (hd3.2.1 c ns ds)
 |clo q1 q2 q3 q4=>exact absurd rfl (hd3.2.2 q1 q2 q3 q4)
 |int _=>exact h (.int 0) (by simp) n hn
 |bl _=>exact h (.bl true) (by simp) n hn
 |non=>exact h .non (by simp) n hn
 |str _=>exact h (.str Str.empty) (by simp) n hn
 |tup _=>exact h (.tup []) (by simp) n hn
 |lst _=>exact h (.lst []) (by simp) n hn
 |dic=>exact h .dic (by simp) n hn
def unt (C:List Addr)(H:Hp):Hp:=λb=>if b∈C then none else H b
def kno (C:List Addr)(T H:Hp):Hp:=λb=>if b∈C then T b else H b
theorem unt_in {C:List Addr}{H:Hp}{b:Addr}(h:b∈C):unt C H b=none:=if_pos h
theorem unt_out {C:List Addr}{H:Hp}{b:Addr}(h:b∉C):unt C H b=H b:=if_neg h
theorem kno_in {C:List Addr}{T H:Hp}{b:Addr}(h:b∈C):kno C T H b=T b:=if_pos h
theorem kno_out {C:List Addr}{T H:Hp}{b:Addr}(h:b∉C):kno C T H b=H b:=if_neg h
def CellT (C:List Addr)(T:Hp):Prop:=∀c∈C,∃o u,T c=some (.frz o (.own c))/\o.data = .cell u
section
variable {P:Program}{w:World}{C:List Addr}{T H H':Hp}{h:Heap}
theorem CellT.not (t:CellT C T){c:Addr}{u:HO}(hc:c∈C)(e:T c=some u):(∀x,u≠.own x)/\¬ refd u:=by
 obtain⟨o,z,e1,e2⟩:=t c hc
 rw[e]at e1;cases e1
 refine⟨λx q=>(by cases q),λq=>?_⟩
 rcases q with⟨_,q⟩ | ⟨oc,c',q',q1,vs,t,q2,_⟩
 .cases q
 .cases q1;rw[e2]at q2;cases q2
theorem HOk.unt (ok:HOk P w H h)(t:CellT C H):HOk P w (unt C H) h:=λa o e=>by
 by_cases ha:a∈C
 .rw [unt_in ha]at e;cases e
 rw[unt_out ha]at e
 refine (ok a o e).stay (λ_ _ _ q=>q) (λb q=>?_) λb u q r=>?_
 .rw [unt_out λz=>(t.not z q).1 _ rfl];exact q
 .rw [unt_out λz=>(t.not z q).2 r];exact q
theorem HOk.kno (ok:HOk P w H h)(n:∀c∈C,H c=none)(t:CellT C T)(hT:∀c∈C,∀o u,T c=some (.frz o u)->h.get? c=some o):HOk P w (kno C T H) h:=λa o e=>by
 by_cases ha:a∈C
 .rw [kno_in ha]at e
  obtain⟨o',u,e1,e2⟩:=t a ha
  rw[e]at e1;cases e1
  have:=hT a ha _ _ e
  exact⟨this,_,this⟩
 rw[kno_out ha]at e
 refine (ok a o e).stay (λ_ _ _ q=>q) (λb q=>?_) λb u q r=>?_
 .rw [kno_out λz=>by rw[n b z]at q;cases q];exact q
 .rw [kno_out λz=>by rw[n b z]at q;cases q];exact q
variable {outer:List Env}{s s':Shared}{Q:VK}{u:Value}
theorem CE.rekno (t:CellT C H)(hT:∀c∈C,∀o u,H c=some (.frz o u)->s.heap.get? c=some o)(hf:∀c∈C,c∉frs outer)(x:CE outer P w (L2.unt C H) s (λv H2=>Q v (L2.kno C H H2)) u s'):CE outer P w H s Q u s':=by
 obtain⟨v,H2,os,bare,un,hok,r,q⟩:=x
 have hC:∀c∈C,H2 c=none/\∀o z,H c=some (.frz o z)->s'.heap.get? c=some o:=λc hc=>by
  obtain⟨o,z,e1,e2⟩:=t c hc
  have ho:=hT c hc o _ e1
  exact⟨un.free c o ho (unt_in hc) (by simp),λo' z' e=>by rw[e1]at e;cases e;exact un.keep c o ho (unt_in hc) (hf c hc) (by simp)⟩
 have un0:∀b,H b=none->L2.unt C H b=none:=λb n=>by unfold L2.unt;split;rfl;exact n
 refine⟨v,_,os,bare,⟨λb o e n=>un.keep b o e (un0 b n),λb o e n=>un.slot b o e (un0 b n),λb o e n hx=>?_,un.there,λb xs e=>?_,λb o y e=>?_,λb ps e=>?_⟩,hok.kno (λc hc=>(hC c hc).1) t λc hc o z e=>(hC c hc).2 o z e,r,q⟩
 .by_cases hb:b∈C
  .rw [kno_in hb];exact n
  .rw [kno_out hb];exact un.free b o e (un0 b n) hx
 .have hb:b∉C:=λz=>by obtain⟨_,_,e1,_⟩:=t b z;rw[e]at e1;cases e1
  rw[kno_out hb];exact un.tups b xs (by rw[unt_out hb];exact e)
 .by_cases hb:b∈C
  .rw [kno_in hb];exact e
  .rw [kno_out hb];exact un.frzs b o y (by rw[unt_out hb];exact e)
 .have hb:b∉C:=λz=>by obtain⟨_,_,e1,_⟩:=t b z;rw[e]at e1;cases e1
  obtain⟨more,q⟩:=un.tbls b ps (by rw[unt_out hb];exact e)
  exact⟨more,by rw[kno_out hb];exact q⟩
theorem CE.unkno (n:∀c∈C,H c=none)(t:CellT C T)(hT:∀c∈C,∀o u,T c=some (.frz o u)->s.heap.get? c=some o)(hf:∀c∈C,c∉frs outer)(x:CE outer P w (L2.kno C T H) s (λv H2=>Q v (L2.unt C H2)) u s'):CE outer P w H s Q u s':=by
 obtain⟨v,H2,os,bare,un,hok,r,q⟩:=x
 have hC:∀c∈C,∃o z,s.heap.get? c=some o/\s'.heap.get? c=some o/\H2 c=some (.frz o (.own c))/\o.data = .cell z:=λc hc=>by
  obtain⟨o,z,e1,e2⟩:=t c hc
  have e:=un.frzs c o (.own c) (by rw[kno_in hc];exact e1)
  exact⟨o,z,hT c hc o _ e1,(hok c _ e).1,e,e2⟩
 have tr0:∀b,b∉C->H b=none->L2.kno C T H b=none:=λb hb n=>by rw[kno_out hb];exact n
 have nC:∀{b y},H b=some y->b∉C:=λe z=>by rw[n _ z]at e;cases e
 refine⟨v,_,os,bare,⟨λb o e n hb hx=>?_,λb o e n hb hx=>?_,λb o e n hx=>?_,un.there,λb xs e=>?_,λb o y e=>?_,λb ps e=>?_⟩,hok.unt λc hc=>?_,r,q⟩
 .by_cases h:b∈C
  .obtain ⟨o',_,e1,e2,_⟩:=hC b h
   rw[e]at e1;cases e1;exact e2
  .exact un.keep b o e (tr0 b h n) hb hx
 .exact un.slot b o e (tr0 b (λz=>hf b z hb) n) hb hx
 .by_cases h:b∈C
  .exact unt_in h
  .rw [unt_out h];exact un.free b o e (tr0 b h n) hx
 .rw [unt_out (nC e)];exact un.tups b xs (by rw[kno_out (nC e)];exact e)
 .rw [unt_out (nC e)];exact un.frzs b o y (by rw[kno_out (nC e)];exact e)
 .obtain ⟨more,q⟩:=un.tbls b ps (by rw[kno_out (nC e)];exact e)
  exact⟨more,by rw[unt_out (nC e)];exact q⟩
 .obtain ⟨o,z,_,_,e,e2⟩:=hC c hc
  exact⟨o,z,e,e2⟩
variable {K:Frag}{mg:Str->Option Value}{base:Heap}{A:Around}
theorem Env0.unt (e:Env0 P w K mg base A outer s H)(t:CellT C H):Env0 P w K mg base A outer s (L2.unt C H):=
 ⟨e.frames,e.mod,λb o q=>⟨(e.bs b o q).1,by unfold L2.unt;split;rfl;exact (e.bs b o q).2⟩,e.bsz,e.funs,λb hb=>by unfold L2.unt;split;rfl;exact e.frf b hb,e.hok.unt t,e.bare⟩
theorem Env0.kno (e:Env0 P w K mg base A outer s H)(n:∀c∈C,H c=none)(t:CellT C T)(hT:∀c∈C,∀o u,T c=some (.frz o u)->s.heap.get? c=some o)(hf:∀c∈C,c∉frs outer)(hb:∀c∈C,base.get? c=none):Env0 P w K mg base A outer s (L2.kno C T H):=
 ⟨e.frames,e.mod,λb o q=>⟨(e.bs b o q).1,by rw[kno_out λz=>by rw[hb b z]at q;cases q];exact (e.bs b o q).2⟩,e.bsz,e.funs,λb h=>by rw[kno_out λz=>hf b z h];exact e.frf b h,e.hok.kno n t hT,e.bare⟩
end
structure CellsAt (h:Heap) (H:Hp) (cl:List (Str×Addr)) (ws:List V):Prop where
 len:cl.length=ws.length
 at':∀(i:Nat) x c v,cl[i]?=some (x,c)->ws[i]?=some v->H c=none/\∃u,RelV v u/\h.IsCell c (some u)
 ndn:(cl.map (·.1)).Nodup
 nda:(cl.map (·.2)).Nodup
structure CloScope (N fs ps:List Str) (sc:Scope):Prop where
 kind:sc.kind = .function
 co:sc.isCoroutine=false
 gen:sc.isGenerator=false
 nd:N.Nodup
 pre:N.take (fs.length+ps.length)=fs++ps
 fre:∀x∈fs,sc.names.lookup x=some .free
 par:∀x∈ps,sc.names.lookup x=some .local
 only:∀y∈sc.names,y.2≠.cell/\(y.2 = .free->y.1∈fs)
def cxC (P:Program)(w:World)(K:Frag)(mg:Str->Option Value)(base:Heap)(N:List Str)(q:Str)(scope:Scope)(f:Addr)(cd:Value)(cl:List (Str×Addr))(A:Around)(outer:List Env)(s:Shared)(H:Hp):Cx where
 prog:=P
 w:=w
 K:=K
 mg:=mg
 base:=base
 A:=A.deeper (envX q scope s.heap.objs.size f cd cl)
 N:=N
 s₀:=s
 H₀:=H
 env:=envX q scope s.heap.objs.size f cd cl
 outer:=outer
 stack:=envX q scope s.heap.objs.size f cd cl::outer
 ex:=[]
 fn:=λ_=>false
 calm:=true
 pn:=[]
 xe:=λ_ _=>False
structure CloOk (P:Program) (w:World) (K:Frag) (mg:Str->Option Value) (base:Heap) (k:Nat) (q:Str) (st:Stmt) (fs:List Str) (sp:Sp):Prop where
 run:∀(A:Around) (outer:List Env) (s:Shared) (H:Hp) (f c:Addr) (cl:List (Str×Addr)) (doc pm ctv:Value) (us:List Value) (ws vs:List V) (Q:VK),Room k A->Env0 P w K mg base A outer s H->s.heap.get? f=some (cloObj q st cl doc pm c ctv)->s.heap.CodeRec (.ref c) q->
  cl.map (·.1)=fs->CellsAt s.heap H cl ws->Vals vs us->sp (ws++vs) H Q E0->codeAny (model P w) A (.call (.ref f) ⟨us,[]⟩) (CR CX0 outer P w H s Q E0) s
theorem nd_inj {cl:List (Str×Addr)}{x y:Str}{c:Addr}(h:(cl.map (·.2)).Nodup)(a:(x,c)∈cl)(b:(y,c)∈cl):x=y:=by
 induction cl with
 |nil=>cases a
 |cons p r ih=>
  rw[List.map_cons,List.nodup_cons]at h
  rcases List.mem_cons.mp a with e |a
  .rcases List.mem_cons.mp b with e' |b
   .rw [<- e]at e';cases e';rfl
   .exact absurd (List.mem_map.mpr ⟨_,b,by rw[<- e]⟩) h.1
  .rcases List.mem_cons.mp b with e' |b
   .exact absurd (List.mem_map.mpr ⟨_,a,by rw[<- e']⟩) h.1
   .exact ih h.2 a b
theorem lk_nd {α:Type}{l:List (Str×α)}{x:Str}{a:α}(nd:(l.map (·.1)).Nodup)(m:(x,a)∈l):l.lookup x=some a:=by
 induction l with
 |nil=>cases m
 |cons p r ih=>
  rw[List.map_cons,List.nodup_cons]at nd
  rcases List.mem_cons.mp m with e |m'
  .rw [<- e,List.lookup_cons,beq_self_eq_true]
  .have:(x==p.1)=false:=by
    rw[beq_eq_false_iff_ne];rintro rfl
    exact nd.1 (List.mem_map.mpr ⟨_,m',rfl⟩)
   obtain⟨p1,p2⟩:=p
   rw[List.lookup_cons,this];exact ih nd.2 m'
section
variable {P:Program}{w:World}{K:Frag}{mg:Str->Option Value}{base:Heap}{N fs ps:List Str}{q:Str}{st:Stmt}{k:Nat}{sp:Sp}
theorem inv_startC {A:Around}{outer:List Env}{s:Shared}{H:Hp}{f:Addr}{cd:Value}{cl:List (Str×Addr)}{us:List Value}{ws vs:List V}{h₁:Heap}{tk:Nat}(S:CloScope N fs ps (Xac st))(hd:A.handled=none)(e0:Env0 P w K mg base A outer s H)(hl:vs.length=ps.length)(hf:cl.map (·.1)=fs)
  (hc:CellsAt s.heap H cl ws) (r:Vals vs us) (hns:h₁.Ns s.heap.objs.size (λx=>(ps.zip us).reverse.lookup x)) (hk:∀b o,s.heap.get? b=some o->h₁.get? b=some o):
  Inv (cxC P w K mg base N q (Xac st) f cd cl A outer s H) [] (start N (ws++vs)) H {s with heap:=h₁,toks:=tk}:=by
 have hfl:fs.length=ws.length:=by rw[<- hf,List.length_map,hc.len]
 have hpl:fs.length+ps.length<=N.length:=by have:=congrArg List.length S.pre;rw[List.length_take,List.length_append]at this;omega
 have noA:∀b:Addr,b∉(cxC P w K mg base N q (Xac st) f cd cl A outer s H).ex:=λb z=>absurd (show b∈([]:List Addr) from z) (by simp)
 have cellK:∀{c v},s.heap.IsCell c v->h₁.IsCell c v:=λ⟨o,ho,hd⟩=>⟨o,hk _ _ ho,hd⟩
 have lkm:∀{x c},cl.lookup x=some c->(x,c)∈cl:=λh=>PySem.mem_of_lookup h
 have all:∀{x c},(x,c)∈cl->H c=none/\∃u,s.heap.IsCell c (some u):=λ{x c} h=>by
  obtain⟨i,hi,e⟩:=List.mem_iff_getElem.mp h
  have hi':i<ws.length:=by rw[<- hc.len];exact hi
  obtain⟨a,u,_,b⟩:=hc.at' i x c ws[i] (by rw[List.getElem?_eq_getElem hi,e]) (List.getElem?_eq_getElem hi')
  exact⟨a,u,b⟩
 refine⟨⟨e0.mod,S.kind,rfl,rfl,Nat.le_refl _,λy z c h1 h2=>nd_inj hc.nda (lkm h1) (lkm h2),λy hy=>?_,λy c z=>(by cases z),λ_=>hd,Around.frames_deeper e0.frames,.inr ⟨rfl,rfl⟩,λb z=>absurd z (noA b),e0.bs,e0.bsz,λb _ _=>noA b,λb z=>absurd z (noA b),e0.funs,e0.frf⟩,
  rfl,e0.bare,Un.kept hk,⟨_,hns,λi y v h1 h2 h3=>?_⟩,λy c h=>?_,e0.hok.fresh (Nat.le_refl _),λy c h=>(all (lkm h)).1,λp hp=>absurd (show p∈([]:List (Addr×Obj)) from hp) (by simp),e0.hok.kept hk,?_⟩
 .have hy:(Xac st).names.lookup y=some .cell∨(Xac st).names.lookup y=some .free:=hy
  rcases hy with hy |hy
  .exact absurd rfl (S.only _ (PySem.mem_of_lookup hy)).1
  .have hm:=(S.only _ (PySem.mem_of_lookup hy)).2 rfl
   rw[<- hf]at hm
   obtain⟨⟨x,c⟩,hm',rfl⟩:=List.mem_map.mp hm
   exact⟨c,lk_nd hc.ndn hm'⟩
 .have hi:i<ws.length+vs.length:=by
   unfold start at h2
   by_cases hi:i<ws.length+vs.length
   .exact hi
   .rw [List.getElem?_append_right (by simpa using hi),List.getElem?_replicate]at h2
    split at h2<;>cases h2
  have ha:(ws++vs)[i]?=some v:=by
   unfold start at h2
   rw[List.getElem?_append_left (by simpa using hi),List.getElem?_map]at h2
   cases e:(ws++vs)[i]? with
   |none=>rw[e]at h2;cases h2
   |some a=>rw[e]at h2;cases h2;rfl
  have hp:(fs++ps)[i]?=some y:=by
   rw[<- S.pre,List.getElem?_take_of_lt (by omega)];exact h1
  by_cases hw:i<ws.length
  .rw [List.getElem?_append_left hw]at ha
   rw[List.getElem?_append_left (by omega),<- hf,List.getElem?_map]at hp
   cases e:cl[i]? with
   |none=>rw[e]at hp;cases hp
   |some p=>
    rw[e]at hp
    obtain⟨x,c⟩:=p
    cases hp
    obtain⟨_,u,ru,hcu⟩:=hc.at' i x c v e ha
    refine⟨u,ru,.inr ⟨.inr (S.fre x ?_),c,lk_nd hc.ndn (List.mem_of_getElem? e),cellK hcu⟩⟩
    rw[<- hf];exact List.mem_map.mpr ⟨_,List.mem_of_getElem? e,rfl⟩
  .rw [List.getElem?_append_right (by omega)]at ha hp
   obtain⟨u,hu,rv⟩:=r.get ha
   have ndP:ps.Nodup:=by
    have:(fs++ps).Nodup:=by rw[<- S.pre];exact S.nd.sublist (List.take_sublist _ _)
    exact (List.nodup_append.mp this).2.1
   rw[hfl]at hp
   refine⟨u,rv,.inl ⟨S.par y (List.mem_of_getElem? hp),(show List.lookup y (ps.zip us).reverse=some u from lk_nd ?_ ?_)⟩⟩
   .rw [List.map_reverse]
    refine (List.reverse_perm _).nodup_iff.mpr ?_
    rw[List.map_fst_zip (by rw[<- r.length,hl];exact Nat.le_refl _)];exact ndP
   .rw [List.mem_reverse]
    exact List.mem_of_getElem? (i:=i-ws.length) (by rw[List.getElem?_zip_eq_some];exact⟨hp,hu⟩)
 .obtain ⟨_,u,hu⟩:=all (lkm h)
  exact⟨_,cellK hu⟩
 .unfold start
  show _=N.length
  rw[List.length_append,List.length_map,List.length_replicate,List.length_append]
  omega
theorem clo_of (S:CloScope N fs ps (Xac st))
  (hb:∀(cl:List (Str×Addr)) (doc pm:Value) (c:Addr) (ctv:Value) (us:List Value),us.length=ps.length->bindArgs (fnX (defName st) q (defArgs st) (Xa4 st) (Xac st) cl .none .none doc pm none (.ref c) ctv) ⟨us,[]⟩=pure (ps.zip us))
  (hlen:∀vs H Q,sp vs H Q E0->vs.length=fs.length+ps.length)
  (hbody:∀(A:Around) (outer:List Env) (s:Shared) (H:Hp) (f:Addr) (cd:Value) (cl:List (Str×Addr)),cl.map (·.1)=fs->Room k (A.deeper (envX q (Xac st) s.heap.objs.size f cd cl))->
   ∃t,PSs (cxC P w K mg base N q (Xac st) f cd cl A outer s H) (Xa4 st) t/\∀vs Q,sp vs H Q E0->t {nx:=λ_ H'=>Q .non H',rt:=Q} (start N vs) H):CloOk P w K mg base (k+1) q st fs sp:=by
 refine⟨λA outer s H f c cl doc pm ctv us ws vs Q hr e0 ho hcd hf hc r hsp=>?_⟩
 have lim:s.heap.NoLimit:=e0.mod.nolimit.keeps λb o e=>(e0.bs b o e).1
 have hl:=hlen _ _ _ hsp
 have hfl:fs.length=ws.length:=by rw[<- hf,List.length_map,hc.len]
 rw[List.length_append]at hl
 have hlv:vs.length=ps.length:=by omega
 refine codeAny_call_def (fd:=fnX (defName st) q (defArgs st) (Xa4 st) (Xac st) cl .none .none doc pm none (.ref c) ctv) (body:=Xa4 st) (binds:=ps.zip us) hr.depth ho rfl lim hcd rfl (BindsTo.of_eq (hb cl doc pm c ctv us (by rw[<- r.length];exact hlv)))
  (λx hx=>(S.only x hx).1) (λx hx=>S.par _ (List.of_mem_zip hx).1) (λh₁ hns hk=>?_) S.co S.gen S.kind
 obtain⟨t,ht,hq⟩:=hbody A outer s H f (.ref c) cl hf (hr.deeper _)
 have I:=inv_startC (tk:=s.toks+(ps.zip us).length) (q:=q) (f:=f) (cd:=.ref c) S hr.hd e0 hlv hf hc r hns hk
 refine wpAny_mono (ht [] _ _ H _ I (hq _ Q hsp)) (λfl s' hs=>?_) λe s' z=>(show False from z).elim
 have fin:∀{Y':St} {H':Hp} {v:V} {u:Value},Inv (cxC P w K mg base N q (Xac st) f (.ref c) cl A outer s H) [] Y' H' s'->RelV v u->Q v H'->CE outer P w H s Q u s':=
  λ{Y' H' v u} J rv q=>⟨v,H',J.os,J.bare,J.base,J.hok,rv,q⟩
 cases fl with
 |ret u=>
  obtain⟨v,Y',H',J,rv,q⟩:=hs
  exact fin J rv q
 |next=>
  obtain⟨Y',H',J,q⟩:=hs
  exact fin (v:=V.non) (u:=Value.none) J rfl q
 |brk=>
  obtain⟨_,_,_,q⟩:=hs
  exact False.elim q
 |cont=>
  obtain⟨_,_,_,q⟩:=hs
  exact False.elim q
end
structure Seen (X:Cx) (cl:List (Str×Addr)) (ix:List Nat):Prop where
 len:cl.length=ix.length
 nm:∀(i:Nat) x c,cl[i]?=some (x,c)->X.env.cells.lookup x=some c/\X.env.kindOf x=some .cell/\Vis X.env.scope x/\∃j:Nat,ix[i]?=some j/\X.N[j]?=some x
 ndn:(cl.map (·.1)).Nodup
 fn:∀(i:Nat) x c,cl[i]?=some (x,c)->X.fn x=true
def ats (Y:St)(ix:List Nat)(ws:List V):Prop:=ws.length=ix.length/\∀(i j:Nat) v,ix[i]?=some j->ws[i]?=some v->Y[j]?=some (some v)
section
variable {X:Cx}{cl:List (Str×Addr)}{ix:List Nat}{pins:List (Addr×Obj)}{Y:St}{H:Hp}{s:Shared}{ws:List V}
theorem Seen.nda (S:Seen X cl ix)(ok:X.Ok):(cl.map (·.2)).Nodup:=by
 rw[List.nodup_iff_pairwise_ne,List.pairwise_map]
 have:=S.ndn
 rw[List.nodup_iff_pairwise_ne,List.pairwise_map]at this
 refine List.Pairwise.imp_of_mem (λ{a b} ha hb hne e=>hne ?_) this
 obtain⟨i,hi⟩:=List.getElem?_of_mem ha
 obtain⟨j,hj⟩:=List.getElem?_of_mem hb
 exact ok.inj a.1 b.1 a.2 (S.nm i a.1 a.2 hi).1 (by rw[(S.nm j b.1 b.2 hj).1,e])
theorem Seen.at' (S:Seen X cl ix)(I:Inv X pins Y H s)(h:ats Y ix ws){i:Nat}{x:Str}{c:Addr}{v:V}(hi:cl[i]?=some (x,c))(hw:ws[i]?=some v):H c=none/\∃u,RelV v u/\s.heap.IsCell c (some u):=by
 obtain⟨h1,h2,h3,j,h4,h5⟩:=S.nm i x c hi
 refine⟨I.freeC x c h1,?_⟩
 obtain⟨m,hn,hl⟩:=I.loc
 obtain⟨u,r,l⟩:=hl j x v h5 (h.2 i j v h4 hw) h3
 rcases l with⟨k,_⟩ | ⟨_,c',e,z⟩
 .rw [h2]at k;cases k
 .rw [h1]at e;cases e;exact⟨u,r,z⟩
theorem Seen.cells (S:Seen X cl ix)(I:Inv X pins Y H s)(h:ats Y ix ws):CellsAt s.heap H cl ws:=
 ⟨S.len.trans h.1.symm,λi x c v hi hw=>S.at' I h hi hw,S.ndn,S.nda I.ok⟩
theorem run_clo {k:Nat}{q:Str}{st:Stmt}{fs:List Str}{sp:Sp}{f c:Addr}{oc:Obj}{doc pm ctv:Value}{us:List Value}{vs:List V}{Q:VK}(C:CloOk X.prog X.w X.K X.mg X.base k q st fs sp)(hr:Room k X.A)(I:Inv X pins Y H s)(hf:cl.map (·.1)=fs)
  (h1:H f=some (.frz (cloObj q st cl doc pm c ctv) (.own f))) (h2:H c=some (.frz oc (.own c))) (h3:isCod oc q) (hc:CellsAt s.heap H cl ws) (r:Vals vs us) (h:sp (ws++vs) H Q E0):wpAny (model X.prog X.w) X.A (call (.ref f) us) (EP X pins Y Q) X.xe s:=by
 obtain⟨vs',t,h3,h4⟩:=h3
 refine wpAny_call (codeAny_mono (C.run X.A X.stack s H f c cl doc pm ctv us ws vs Q hr I.env0 (I.hok f _ h1).1 ⟨c,oc,vs',t,rfl,(I.hok c _ h2).1,h3,h4⟩ hf hc r h) λr s' hq=>?_)
 cases r with
 |error e=>exact (show False from hq).elim
 |ok fl=>
  cases fl with
  |ret u=>exact I.after hq
  |next=>exact False.elim hq
  |brk=>exact False.elim hq
  |cont=>exact False.elim hq
def tCallI (i:Nat)(q:Str)(st:Stmt)(cl:List (Str×Addr))(ix:List Nat)(sp:Sp)(t:TA):TE:=λY H Q=>∃f c oc doc pm ctv ws,Y[i]?=some (some (.ref f))/\H f=some (.frz (cloObj q st cl doc pm c ctv) (.own f))/\ats Y ix ws/\t Y H λvs H1=>
 H1 f=some (.frz (cloObj q st cl doc pm c ctv) (.own f))/\H1 c=some (.frz oc (.own c))/\isCod oc q/\sp (ws++vs) H1 Q E0
theorem pe_callI {y:Str}{i k:Nat}{q:Str}{st:Stmt}{fs:List Str}{sp:Sp}{e:Expr}{es:List Expr}{t:TA}{p pos:Pos}(hn:PE X (.Name y p) (tVar i))(C:CloOk X.prog X.w X.K X.mg X.base k q st fs sp)(hr:Room k X.A)(S:Seen X cl ix)(hf:cl.map (·.1)=fs)(ha:PA X (e::es) t)
  (he:starEach (e::es) X.env=(false,eval e X.env)::starEach es X.env:=by rfl) (hpl:(backTo pos (starEach es X.env)).any (·.1)=false:=by rfl):PE X (.Call (.Name y p) (e::es) [] pos) (tCallI i q st cl ix sp t):=by
 intro pins s Y H Q I ⟨f,c,oc,doc,pm,ctv,ws,hs,h1,ha',h⟩
 refine wpAny_Call_Name_kw (thn (hn pins s Y H (λv H1=>v = .ref f/\H1=H) I ⟨_,hs,rfl,rfl⟩) λu s1 ⟨v,H1,I1,r1,e1,e2⟩=>?_)
 subst e1 e2
 cases r1
 have fat:∀{Y H s pins},Inv X pins Y H s->H f=some (.frz (cloObj q st cl doc pm c ctv) (.own f))->FnAt f s.heap:=λI h=>⟨_,_,_,_,(I.hok f _ h).1⟩
 refine callWith_F (fat I1 h1) (thn (ha pos pins s1 Y H1 _ I1 h) λus s2 ⟨vs,H2,I2,r,g1,g2,g3,q⟩=>⟨fat I2 g1,?_⟩) he hpl
 rw[List.nil_append]
 exact run_clo C hr I2 hf g1 g2 g3 (S.cells I2 ha') r q
def tCallP (i:Nat)(q:Str)(st:Stmt)(fs:List Str)(sp:Sp)(t:TA):TE:=λY H Q=>∃f c oc cl doc pm ctv ws,Y[i]?=some (some (.ref f))/\H f=some (.frz (cloObj q st cl doc pm c ctv) (.own f))/\cl.map (·.1)=fs/\(cl.map (·.2)).Nodup/\(cl.map (·.1)).Nodup/\cl.length=ws.length/\
 t Y H λvs H1=>H1 f=some (.frz (cloObj q st cl doc pm c ctv) (.own f))/\H1 c=some (.frz oc (.own c))/\isCod oc q/\CellsF H1 cl ws/\sp (ws++vs) (unt (cl.map (·.2)) H1) (λv H2=>Q v (kno (cl.map (·.2)) H1 H2)) E0
theorem pe_callP {y:Str}{i k:Nat}{q:Str}{st:Stmt}{fs:List Str}{sp:Sp}{e:Expr}{es:List Expr}{t:TA}{p pos:Pos}(hn:PE X (.Name y p) (tVar i))(C:CloOk X.prog X.w X.K X.mg X.base k q st fs sp)(hr:Room k X.A)(ha:PA X (e::es) t)
  (he:starEach (e::es) X.env=(false,eval e X.env)::starEach es X.env:=by rfl) (hpl:(backTo pos (starEach es X.env)).any (·.1)=false:=by rfl):PE X (.Call (.Name y p) (e::es) [] pos) (tCallP i q st fs sp t):=by
 intro pins s Y H Q I ⟨f,c,oc,cl,doc,pm,ctv,ws,hs,h1,hf,hnd,hnn,hlen,h⟩
 refine wpAny_Call_Name_kw (thn (hn pins s Y H (λv H1=>v = .ref f/\H1=H) I ⟨_,hs,rfl,rfl⟩) λu s1 ⟨v,H1,I1,r1,e1,e2⟩=>?_)
 subst e1 e2
 cases r1
 have fat:∀{Y H s pins},Inv X pins Y H s->H f=some (.frz (cloObj q st cl doc pm c ctv) (.own f))->FnAt f s.heap:=λI h=>⟨_,_,_,_,(I.hok f _ h).1⟩
 refine callWith_F (fat I1 h1) (thn (ha pos pins s1 Y H1 _ I1 h) λus s2 ⟨vs,H2,I2,r,g1,g2,⟨vs',t,g3,g4⟩,gc,q⟩=>⟨fat I2 g1,?_⟩) he hpl
 rw[List.nil_append]
 have ct:CellT (cl.map (·.2)) H2:=λa ha=>by
  obtain⟨⟨x,a'⟩,hm,rfl⟩:=List.mem_map.mp ha
  obtain⟨j,hj⟩:=List.getElem?_of_mem hm
  obtain⟨hjl,_⟩:=List.getElem?_eq_some_iff.mp hj
  obtain⟨x',a2,o,u,e1,e2,e3,_⟩:=gc j ws[j] (List.getElem?_eq_getElem (by rw[<- hlen];exact hjl))
  rw[hj]at e1;cases e1
  exact⟨o,_,e2,e3⟩
 have nf:f∉cl.map (·.2):=λz=>by
  obtain⟨o,u,e1,e2⟩:=ct f z
  rw[g1]at e1;cases e1;cases e2
 have nc:c∉cl.map (·.2):=λz=>by
  obtain⟨o,u,e1,e2⟩:=ct c z
  rw[g2]at e1;cases e1;rw[g3]at e2;cases e2
 have hT:∀b∈cl.map (·.2),∀o u,H2 b=some (.frz o u)->s2.heap.get? b=some o:=λb _ o u e=>(I2.hok b _ e).1
 have hfr:∀b∈cl.map (·.2),b∉frs X.stack:=λb hb z=>by
  obtain⟨o,u,e1,_⟩:=ct b hb
  rw[I2.stkFree b z]at e1;cases e1
 have hc:CellsAt s2.heap (unt (cl.map (·.2)) H2) cl ws:=⟨hlen,λj x a v e1 e2=>⟨unt_in (List.mem_map.mpr ⟨_,List.mem_of_getElem? e1,rfl⟩),by
  obtain⟨x',a2,o,u,e3,e4,e5,e6⟩:=gc j v e2
  rw[e1]at e3;cases e3
  exact⟨u,e6,o,(I2.hok a _ e4).1,e5⟩⟩,hnn,hnd⟩
 refine wpAny_call (codeAny_mono (C.run X.A X.stack s2 _ f c cl doc pm ctv us ws vs _ hr (I2.env0.unt ct) (I2.hok f _ g1).1 ⟨c,oc,vs',t,rfl,(I2.hok c _ g2).1,g3,g4⟩ hf hc r q) λr s' hq=>?_)
 cases r with
 |error e=>exact (show False from hq).elim
 |ok fl=>
  cases fl with
  |ret u=>exact I2.after (CE.rekno ct hT hfr hq)
  |next=>exact False.elim hq
  |brk=>exact False.elim hq
  |cont=>exact False.elim hq
def tCallT (sp:Sp)(cl:List (Str×Addr))(ix:List Nat)(t:TA):TE:=λY H Q=>∃ws,ats Y ix ws/\t Y H λvs H1=>∀T:Hp,CellsF T cl ws->CellT (cl.map (·.2)) T->(∀c∈cl.map (·.2),H1 c=none)->(cl.map (·.2)).Nodup->sp vs (kno (cl.map (·.2)) T H1) (λv H2=>Q v (unt (cl.map (·.2)) H2)) E0
theorem pe_callT {x:Str}{f:Addr}{fd:FuncData}{ps:List Str}{k:Nat}{sp:Sp}{e:Expr}{es:List Expr}{t:TA}{p pos:Pos}(F:FnOk X.prog X.w X.K X.mg X.base CX0 k f fd ps sp)(hr:Room k X.A)(hg:Gl X x)(hm:X.mg x=some (.ref f))(hk:PySem.W.keepIn X.K (.ref f)=true)(hb:Binds X.K fd ps [])(S:Seen X cl ix)
  (ha:PA X (e::es) t) (hdb:(x==("__debug__":Str))=false:=by decide) (he:starEach (e::es) X.env=(false,eval e X.env)::starEach es X.env:=by rfl) (hpl:(backTo pos (starEach es X.env)).any (·.1)=false:=by rfl):PE X (.Call (.Name x p) (e::es) [] pos) (tCallT sp cl ix t):=by
 intro pins s Y H Q I ⟨ws,hw,h⟩
 refine wpAny_Call_Name_kw (ld_glob I hg hm ?_ hdb)
 refine PySem.W.callWith_K (h₀:=X.base) I.ok.mod.kin hk (thn (ha pos pins s Y H _ I h) λus s2 ⟨vs,H2,I2,r,q⟩=>⟨I2.kIn,?_⟩) he hpl
 have CA:=S.cells I2 hw
 let T:Hp:=λb=>(s2.heap.get? b).map λo=>HO.frz o (.own b)
 have hin:∀b∈cl.map (·.2),∃i x v,cl[i]?=some (x,b)/\ws[i]?=some v:=λb hb=>by
  obtain⟨⟨x,a'⟩,hm,rfl⟩:=List.mem_map.mp hb
  obtain⟨j,hj⟩:=List.getElem?_of_mem hm
  obtain⟨hjl,_⟩:=List.getElem?_eq_some_iff.mp hj
  exact⟨j,x,ws[j]'(by rw[<- CA.len];exact hjl),hj,List.getElem?_eq_getElem _⟩
 have ct:CellT (cl.map (·.2)) T:=λb hb=>by
  obtain⟨i,x,v,e1,e2⟩:=hin b hb
  obtain⟨_,u,_,o,e3,e4⟩:=CA.at' i x b v e1 e2
  exact⟨o,_,by show (s2.heap.get? b).map _=_;rw[e3];rfl,e4⟩
 have cf:CellsF T cl ws:=λi v hv=>by
  have hi:i<cl.length:=by rw[CA.len];exact (List.getElem?_eq_some_iff.mp hv).1
  have hx:=List.getElem?_eq_getElem hi
  generalize cl[i]=p at hx
  obtain⟨x1,c1⟩:=p
  obtain⟨_,u,ru,o,e3,e4⟩:=CA.at' i x1 c1 v hx hv
  exact⟨x1,c1,o,u,hx,by show (s2.heap.get? c1).map _=_;rw[e3];rfl,e4,ru⟩
 have n:∀c∈cl.map (·.2),H2 c=none:=λb hb=>by
  obtain⟨i,x,v,e1,e2⟩:=hin b hb
  exact (CA.at' i x b v e1 e2).1
 have hT:∀c∈cl.map (·.2),∀o u,T c=some (.frz o u)->s2.heap.get? c=some o:=λb _ o u e=>by
  have e:(s2.heap.get? b).map (λo=>HO.frz o (.own b))=some (.frz o u):=e
  cases q:s2.heap.get? b with
  |none=>rw[q]at e;cases e
  |some o'=>rw[q]at e;cases e;rfl
 have cne:∀c∈cl.map (·.2),∃x,X.env.cells.lookup x=some c/\X.fn x=true:=λb hb=>by
  obtain⟨i,x,v,e1,e2⟩:=hin b hb
  exact⟨x,(S.nm i x b e1).1,S.fn i x b e1⟩
 have hfr:∀c∈cl.map (·.2),c∉frs X.stack:=λb hb z=>by
  obtain⟨x,h1,h2⟩:=cne b hb
  rcases List.mem_cons.mp (I2.stkSub b z) with e |e
  .exact I2.cne x b h1 e
  .obtain ⟨_,o,ho,_⟩:=I2.ok.funs.mem e
   exact absurd (Nat.lt_of_lt_of_le (Heap.lt_size ho) (I2.ok.cab x b h2 h1)) (Nat.lt_irrefl _)
 have hbs:∀c∈cl.map (·.2),X.base.get? c=none:=λb hb=>by
  cases q:X.base.get? b with
  |none=>rfl
  |some o=>
   obtain⟨x,h1,h2⟩:=cne b hb
   have:=I2.ok.cab x b h2 h1
   exact absurd (Nat.lt_of_lt_of_le (Heap.lt_size q) (Nat.le_trans I2.ok.bsz this)) (Nat.lt_irrefl _)
 have hl:(us++[]).length=ps.length:=by rw[List.append_nil,<- r.length];exact F.len _ _ _ _ (q T cf ct n (S.nda I2.ok))
 have hbt:=hb s2 us I2.kIn hl
 rw[List.append_nil]at hbt
 refine wpAny_call (codeAny_mono (F.run X.A X.stack s2 _ ⟨us,[]⟩ us vs _ _ hr (I2.env0.kno n ct hT hfr hbs) hbt r (q T cf ct n (S.nda I2.ok))) λr s' hq=>?_)
 cases r with
 |error e=>exact (show False from hq).elim
 |ok fl=>
  cases fl with
  |ret u=>exact I2.after (CE.unkno n ct hT hfr hq)
  |next=>exact False.elim hq
  |brk=>exact False.elim hq
  |cont=>exact False.elim hq
end
def tDef (i:Nat)(P:Addr)(pos:Pos)(q:Str)(st:Stmt)(cl:List (Str×Addr)):TS:=λD Y H=>H P=some (.cod pos q)/\∀f c oc doc pm ctv H',H f=none->Same H H'->H' f=some (.frz (cloObj q st cl doc pm c ctv) (.own f))->H' c=some (.frz oc (.own c))->isCod oc q->D.nx (Y.set i (some (.ref f))) H'
section
variable {X:Cx}
theorem ps_def {i:Nat}{P c:Addr}{pos:Pos}{q name:Str}{params:Arguments}{body:List Stmt}{scope:Scope}{cl:List (Str×Addr)}(hcode:X.env.code = .ref c)(hC:CodeHd X.base c P)(hB:X.base.BuiltinsAt X.mg P)(hcl:X.Ok->closureFor scope X.env=pure cl)
  (hN:X.N.Nodup) (hi:X.N[i]?=some name) (hx:Loc X.env.scope name) (hd0:params.defaults=[]:=by rfl) (hk0:params.kw_defaults=[]:=by rfl) (ha:annTrees params none X.env=[]:=by rfl) (hq:qualnameIn X.env name name=q:=by rfl)
  (hf:X.fn name=true∨X.env.scope.names.lookup name=some .local:=by first |exact .inl rfl |exact .inr rfl |assumption):
  PS X (.FunctionDef name params body [] none [] scope none name pos) (tDef i P pos q (.FunctionDef name params body [] none [] scope none name pos) cl):=by
 intro pins s Y H D I ⟨hP,h⟩
 obtain⟨ps,ho,ht,hc⟩:=I.hok P _ hP
 refine nestDef_K hd0 hk0 ha ?_
 rw[hq]
 have hg:s.heap.Ns mainGlobals X.mg:=I.mod.glob.keeps I.bk
 have nb:∀{b o},X.base.get? b=some o->b≠P:=λ{b o} e z=>by rw[z]at e;rw[(I.bs P o e).2]at hP;cases hP
 have hgP:mainGlobals≠P:=by obtain⟨o,es,ep,e,_⟩:=I.mod.glob;exact nb e
 have hB':s.heap.BuiltinsAt X.mg P:=by obtain⟨bm,o,h1,h2,h3,h4,h5,h6⟩:=hB;exact⟨bm,o,h1,h2,h3,h4,I.bk _ _ h5,h6⟩
 cases hcd:codeAmong pos ps.toList with
 |some v=>
  obtain⟨c',oc,rfl,hHc,hoc⟩:=hc v hcd
  refine makeFunction_hit (hcl I.ok) I.ok.glob hg hcode (hC.keeps I.bk) ho ht hcd hB' λctv doc h' tk hk hsz=>?_
  have hn:H h'.objs.size=none:=I.hok.fresh hsz
  have I1:Inv X pins Y (upd H h'.objs.size (.frz (cloObj q (.FunctionDef name params body [] none [] scope none name pos) cl doc ((X.mg "__name__").getD .none) c' ctv) (.own h'.objs.size))) _:=
   I.laid (t':=tk) (h':=h'.push (cloObj q (.FunctionDef name params body [] none [] scope none name pos) cl doc ((X.mg "__name__").getD .none) c' ctv)) (λb u e=>Heap.get?_push_of_some _ (hk b u e)) hsz ⟨Heap.get?_push_size _ rfl,_,Heap.get?_push_size _ rfl⟩
  refine store_ok I1 hN hi hx (v:=.ref h'.objs.size) rfl (λs2 I2=>⟨_,_,I2,h _ c' oc doc _ ctv _ hn (Same.new hn) Xa0 ?_ hoc⟩) hf
  rw[upd_ne λz=>by rw[z,hn]at hHc;cases hHc];exact hHc
 |none=>
  refine makeFunction_K (hcl I.ok) I.ok.glob hg hcode (hC.keeps I.bk) ho ht hcd hgP hB' λc' ctv doc h' tk hx' hge hlt hrec htb=>?_
  obtain⟨c2,oc,vs,t,e0,hoc,hd,hv⟩:=hrec
  cases e0
  have hnc:H c'=none:=I.hok.fresh hge
  have hnf:H h'.objs.size=none:=I.hok.fresh (Nat.le_trans hge (Nat.le_of_lt hlt))
  have hfc:h'.objs.size≠c':=Nat.ne_of_gt hlt
  generalize hfo:cloObj q (.FunctionDef name params body [] none [] scope none name pos) cl doc ((X.mg "__name__").getD .none) c' ctv=fo
  let H':Hp:=upd (upd H c' (.frz oc (.own c'))) h'.objs.size (.frz fo (.own h'.objs.size))
  have e1:∀b u,H b=some u->H' b=some u:=λb u e=>by
   show upd _ _ _ b=_
   rw[upd_ne (λz=>by rw[z,hnf]at e;cases e),upd_ne (λz=>by rw[z,hnc]at e;cases e)];exact e
  have keep:∀b o,b≠P->s.heap.get? b=some o->(h'.push fo).get? b=some o:=λb o hb e=>Heap.get?_push_of_some _ (hx' b o hb e)
  have nP:∀{b},H b=none->b≠P:=λe z=>by rw[z,hP]at e;cases e
  have hPn:(h'.push fo).get? P=some (tabObj (ps++#[rawInt pos.line,rawInt pos.col,.ref c'])):=Heap.get?_push_of_some _ htb
  have un:Un (frs X.stack) [] H H' s.heap (h'.push fo):=⟨λb o e n _ _=>keep b o (nP n) e,λb o e n _ _=>⟨o.slots,keep b o (nP n) e⟩,λb o e n _=>?_,λb o e _=>?_,λb xs e=>e1 _ _ e,λb o u e=>e1 _ _ e,λb ps e=>⟨#[],by rw[Array.append_empty];exact e1 _ _ e⟩⟩
  rotate_left
  .have hb:=Heap.lt_size e
   show upd _ _ _ b=_
   rw[upd_ne (Nat.ne_of_lt (Nat.lt_of_lt_of_le hb (Nat.le_trans hge (Nat.le_of_lt hlt)))),upd_ne (Nat.ne_of_lt (Nat.lt_of_lt_of_le hb hge))];exact n
  .by_cases hb:b=P
   .subst hb;exact⟨_,hPn⟩
   .exact ⟨_,keep b o hb e⟩
  have hok:HOk X.prog X.w H' (h'.push fo):=λb u e=>by
   by_cases h1:b=h'.objs.size
   .subst h1
    have e:upd _ _ _ _=some u:=e
    rw[Xa0]at e;cases e
    have:(h'.push fo).get? h'.objs.size=some fo:=Heap.get?_push_size _ (by rw[<- hfo];rfl)
    exact⟨this,_,this⟩
   by_cases h2:b=c'
   .subst h2
    have e:upd _ _ _ _=some u:=e
    rw[upd_ne h1,Xa0]at e;cases e
    have:=Heap.get?_push_of_some fo hoc
    exact⟨this,_,this⟩
   have e:upd _ _ _ _=some u:=e
   rw[upd_ne h1,upd_ne h2]at e
   by_cases h3:b=P
   .subst h3
    rw[hP]at e;cases e
    refine⟨_,hPn,?_,λv hv'=>?_⟩
    .have:=TriplesOk_snoc pos.line pos.col (.ref c') ps.toList ht
     simpa using this
    .have:=codeAmong_snoc (pos:=pos) (c:=.ref c') ps.toList ht hcd
     rw[show (ps++#[rawInt pos.line,rawInt pos.col,.ref c']).toList=ps.toList++[rawInt pos.line,rawInt pos.col,.ref c'] by simp,this]at hv'
     cases hv'
     refine⟨c',oc,rfl,?_,vs,t,hd,hv⟩
     show upd _ _ _ _=_
     rw[upd_ne (Ne.symm hfc),Xa0]
   .refine (I.hok b u e).stay (λd v hdv qv=>keep d v ?_ qv) (λd qd=>e1 _ _ qd) λd v qd _=>e1 _ _ qd
    rcases hdv with rfl |hdv
    .exact h3
    .rintro rfl;rw[hP]at hdv;cases hdv
  have I1:Inv X pins Y H' {s with heap:=h'.push fo,toks:=tk}:=I.call' (ch:=[]) rfl un hok I.bare (λb z=>absurd z (by simp))
  subst hfo
  refine store_ok I1 hN hi hx (v:=.ref h'.objs.size) rfl (λs2 I2=>⟨_,_,I2,h _ c' oc doc ((X.mg "__name__").getD .none) ctv H' hnf e1 ?_ ?_ ⟨vs,t,hd,hv⟩⟩) hf
  .show upd _ _ _ _=_
   rw[Xa0]
  .show upd _ _ _ _=_
   rw[upd_ne (Ne.symm hfc),Xa0]
end
def D.smp:D->Bool
 | .int _=>true
 | .bl _=>true
 | .non=>true
 | .str _=>true
 |_=>false
theorem Rep.smp {K:Frag}{F F':Hp}:∀{d:D} {v:V},Rep K F d v->d.smp=true->Rep K F' d v
 | .int _,_,h,_=>h
 | .bl _,_,h,_=>h
 | .non,_,h,_=>h
 | .str _,_,h,_=>h
 | .ty _,_,_,z=>by cases z
 | .fn _,_,_,z=>by cases z
 | .tup _,_,_,z=>by cases z
 | .lst _,_,_,z=>by cases z
 | .dic,_,_,z=>by cases z
 | .exc _,_,_,z=>by cases z
 | .obj _ _ _,_,_,z=>by cases z
 | .clo _ _ _ _,_,_,z=>by cases z
def OV.smp:OV->Bool
 | .fz d=>d.smp
 |_=>false
theorem RepN.smp {K:Frag}{H F H' H1 F1 H1':Hp}:∀{r:OV} {v:V},RepN K H F H' r v->r.smp=true->RepN K H1 F1 H1' r v
 | .fz d,v,⟨A,h,_,_⟩,z=>.fz (h.2.smp z)
 | .nl _,_,_,z=>by cases z
 | .rt _ _,_,_,z=>by cases z
 | .fx _ _,_,_,z=>by cases z
 | .ob _ _ _ _,_,_,z=>by cases z
def sDefC (i:Nat)(q:Str)(st:Stmt)(cl:List (Str×Addr)):DS:=λDe δ=>De.nx (δ.set i (some (.own (.fz (.clo q st cl [])))))
def dCaps:List Nat->DA
 | []=>dNil
 |j::r=>dCons (dV j) (dCaps r)
def dCallI (i n:Nat)(q:Str)(st:Stmt)(cl:List (Str×Addr))(ix:List Nat)(sp:DSp)(As:DA):DO:=λδ P=>match δ[i]? with
 |some (some (.own (.fz (.clo q' st' cl' _))))=>q'=q/\st'=st/\cl'=cl/\dCaps ix δ λcs=>As δ λds=>(cs++ds).length=n/\sp (cs++ds) P
 |_=>False
def dCallT (n:Nat)(q:Str)(st:Stmt)(cl:List (Str×Addr))(fs:List Str)(ix:List Nat)(sp:DSp)(As:DA):DO:=λδ P=>dCaps ix δ λcs=>As δ λds=>match ds with
 | [a,b,.clo q' st' cl' _]=>q'=q/\st'=st/\cl'=cl/\n=3/\((cl.map (·.2)).Nodup->cl.map (·.1)=fs->sp [a,b,.clo q st cl cs] λr=>r.smp=true/\P r)
 |_=>False
def dCallP (i n:Nat)(q:Str)(st:Stmt)(fs:List Str)(sp:DSp)(As:DA):DO:=λδ P=>match δ[i]? with
 |some (some (.own (.fz (.clo q' st' cl cs))))=>q'=q/\st'=st/\cl.map (·.1)=fs/\fs.Nodup/\(cl.map (·.2)).Nodup/\cl.length=cs.length/\As δ λds=>D.lfs cs=true/\D.lfs ds=true/\(cs++ds).length=n/\sp (cs++ds) λr=>r.smp=true/\P r
 |_=>False
section
variable {K:Frag}{F0 H0 F H:Hp}{Y:St}{δ:Dst}
theorem sP_def {i:Nat}{T:Addr}{pos:Pos}{q:Str}{st:Stmt}{cl:List (Str×Addr)}(hP:F0 T=some (.cod pos q)):SimX K F0 H0 (tDef i T pos q st cl) (sDefC i q st cl):=λF H Y δ De En e l w=>by
 have x0:=EnvR.ext e
 refine⟨x0.fh _ _ (x0.ff _ _ hP),λf c oc doc pm ctv H' hn hs h1 h2 h3=>?_⟩
 have hFf:F f=none:=x0.fh.free hn
 let F':Hp:=λb=>if b=f then H' f else if b=c then H' c else F b
 have gf:F' f=H' f:=if_pos rfl
 have gc:F' c=H' c:=by
  show (if c=f then H' f else if c=c then H' c else F c)=_
  split
  .rename_i z;rw[z]
  .rw [if_pos rfl]
 have go:∀b,b≠f->b≠c->F' b=F b:=λb n1 n2=>by
  show (if b=f then H' f else if b=c then H' c else F b)=_
  rw[if_neg n1,if_neg n2]
 have x:Ext F H F' H':=by
  refine⟨λb o e'=>?_,hs,λb o e'=>?_,λb o e1 e2 e3=>?_⟩
  .by_cases z:b=f
   .rw [z,hFf]at e';cases e'
   by_cases z2:b=c
   .rw [z2,gc];rw[z2]at e';exact hs _ _ (x0.fh _ _ e')
   .rw [go b z z2];exact e'
  .by_cases z:b=f
   .rw [z,gf]at e';rw[z];exact e'
   by_cases z2:b=c
   .rw [z2,gc]at e';rw[z2];exact e'
   .rw [go b z z2]at e';exact hs _ _ (x0.fh _ _ e')
  .by_cases z:b=f
   .rw [z,hn]at e2;cases e2
   by_cases z2:b=c
   .rw [z2]at e2
    rw[hs _ _ e2]at h2;cases h2;cases e3
   .rw [go b z z2];exact e1
 exact l.nx F' H' _ _ (e.put x i (r:=.fz (.clo q st cl [])) (v:=.ref f) (.fz ⟨f,c,oc,doc,pm,ctv,[],rfl,gf.trans h1,gc.trans h2,h3,rfl,λi v hv=>by simp at hv⟩)) w
theorem caps_sim (e:EnvR K F0 H0 F H Y δ):∀{ix:List Nat} {P:List D->Prop},dCaps ix δ P->∃cs ws,P cs/\ats Y ix ws/\Reps K F cs ws
 | [],P,h=>⟨[],[],h,⟨rfl,λi j v h=>by simp at h⟩,rfl⟩
 |j :: r,P,h=>by
  have h:dV j δ λd=>dCaps r δ λds=>P (d::ds):=h
  have key:∀{d:D} {v:V} {cs:List D} {ws:List V},Y[j]?=some (some v)->Rep K F d v->P (d::cs)->ats Y r ws->Reps K F cs ws->∃cs ws,P cs/\ats Y (j::r) ws/\Reps K F cs ws:=λ{d v cs ws} hv hr p a rs=>by
   refine⟨d::cs,v::ws,p,⟨by simp[a.1],λi k u h1 h2=>?_⟩,v,ws,rfl,hr,rs⟩
   cases i with
   |zero=>simp at h1 h2;subst h1 h2;exact hv
   |succ i=>exact a.2 i k u (by simpa using h1) (by simpa using h2)
  unfold dV at h
  split at h
  .rename_i d hd
   obtain⟨A,e'⟩:=e
   obtain⟨v,hv,_,hr⟩:=e'.own j _ hd
   obtain⟨cs,ws,p,a,rs⟩:=caps_sim ⟨A,e'⟩ h
   exact key hv hr p a rs
  .rename_i u d hd
   obtain⟨A,e'⟩:=e
   obtain⟨v,hv,_,_,hr⟩:=e'.own j _ hd
   obtain⟨cs,ws,p,a,rs⟩:=caps_sim ⟨A,e'⟩ h
   exact key hv hr p a rs
  .exact h.elim
theorem sO_callI {i n:Nat}{q:Str}{st:Stmt}{cl:List (Str×Addr)}{ix:List Nat}{sp:DSp}{a:TA}{As:DA}(ha:SimAF K a As):SimO K (tCallI i q st cl ix (spV K n sp) a) (dCallI i n q st cl ix sp As):=λF0 H0 F H Y δ P Q e w q'=>by
 unfold dCallI at w
 split at w
 .rename_i q1 st1 cl1 cs1 hs
  obtain⟨rfl,rfl,rfl,w⟩:=w
  obtain⟨cs,ws,w,hw,rs⟩:=caps_sim e w
  have fh:=(EnvR.ext e).fh
  have e0:=e
  obtain⟨A,e'⟩:=e
  obtain⟨v,hv,_,f,c,oc,doc,pm,ctv,vs,rfl,h1,h2,h3,h4,h5⟩:=e'.own i _ hs
  refine⟨f,c,oc,doc,pm,ctv,ws,hv,fh _ _ h1,hw,ha F0 H0 F H Y δ _ _ e0 w λds us F1 H1 w1 x1 r1=>⟨x1.fh _ _ (x1.ff _ _ h1),x1.fh _ _ (x1.ff _ _ h2),h3,?_⟩⟩
  have rr:Reps K F1 (cs++ds) (ws++us):=(rs.mono x1.ff).append r1
  exact⟨by rw[<- rr.length];exact w1.1,F1,cs++ds,P,x1.fh,rr,w1.2,λr v F' H' p x' r'=>q' r v F' H' p (x1.trans x') (r'.old x1.hh)⟩
 .exact w.elim
theorem sO_callT {n:Nat}{q:Str}{st:Stmt}{cl:List (Str×Addr)}{fs:List Str}{ix:List Nat}{sp:DSp}{a:TA}{As:DA}(hf:cl.map (·.1)=fs)(ha:SimAF K a As):SimO K (tCallT (spV K n sp) cl ix a) (dCallT n q st cl fs ix sp As):=λF0 H0 F H Y δ P Q e w q'=>by
 obtain⟨cs,ws,w,hw,rs⟩:=caps_sim e w
 refine⟨ws,hw,ha F0 H0 F H Y δ _ _ e w λds us F1 H1 w1 x1 r1 T cf ct hn hnd=>?_⟩
 try dsimp only at w1
 split at w1
 .rename_i d1 d2 q1 st1 cl1 cs1
  obtain⟨rfl,rfl,rfl,hn3,w1⟩:=w1
  have w1:=w1 hnd hf
  obtain⟨v1,r,rfl,ra,v2,r2,rfl,rb,v3,r3,rfl,rc,e3⟩:=r1
  cases (show r3=[] from e3)
  obtain⟨f,c,oc,doc,pm,ctv,vs,rfl,h1,h2,h3,h4,h5⟩:=rc
  have s1:Same F1 (kno (cl1.map (·.2)) T F1):=λb o z=>by
   rw[kno_out (λy=>by have:=x1.fh _ _ z;rw[hn b y]at this;cases this)];exact z
  have s2:Same (kno (cl1.map (·.2)) T F1) (kno (cl1.map (·.2)) T H1):=λb o z=>by
   by_cases y:b∈cl1.map (·.2)
   .rw [kno_in y]at z ⊢;exact z
   .rw [kno_out y]at z ⊢;exact x1.fh _ _ z
  have cf':CellsF (kno (cl1.map (·.2)) T F1) cl1 ws:=λi v hv=>by
   obtain⟨x,a,o,u,e1,e2,e4⟩:=cf i v hv
   exact⟨x,a,o,u,e1,by rw[kno_in (List.mem_map.mpr ⟨_,List.mem_of_getElem? e1,rfl⟩)];exact e2,e4⟩
  refine⟨by rw[hn3];rfl,_,[d1,d2,.clo q1 st1 cl1 cs],_,s2,⟨v1,_,rfl,ra.mono s1,v2,_,rfl,rb.mono s1,.ref f,_,rfl,⟨f,c,oc,doc,pm,ctv,ws,rfl,s1 _ _ h1,s1 _ _ h2,h3,(rs.mono x1.ff).mono s1,cf'⟩,rfl⟩,w1,λr v F' H' p x' r'=>?_⟩
  refine q' r v F1 (unt (cl1.map (·.2)) H') p.2 (x1.trans ⟨Same.refl _,λb o z=>?_,λb o z=>?_,λ_ _ z _ _=>z⟩) (r'.smp p.1)
  .have nb:b∉cl1.map (·.2):=λy=>by rw[hn b y]at z;cases z
   rw[unt_out nb];exact x'.hh _ _ (by rw[kno_out nb];exact z)
  .have z':=x1.fh _ _ z
   have nb:b∉cl1.map (·.2):=λy=>by rw[hn b y]at z';cases z'
   rw[unt_out nb];exact x'.hh _ _ (by rw[kno_out nb];exact z')
 .exact w1.elim
theorem unt_seqT {C:List Addr}(ct:CellT C F){a:Addr}{xs:List V}(h:SqT K F a xs):SqT K (unt C F) a xs:=by
 rcases h with (h | ⟨o,h⟩) |h
 .exact .inl (.inl (by rw[unt_out (λy=>by obtain⟨_,_,e,_⟩:=ct a y;rw[h]at e;cases e)];exact h))
 .exact .inl (.inr ⟨o,by rw[unt_out (λy=>by obtain⟨_,_,e,_⟩:=ct a y;rw[h]at e;cases e)];exact h⟩)
 .exact .inr h
mutual
theorem Rep.unts {C:List Addr}(ct:CellT C F):∀{d:D} {v:V},Rep K F d v->d.lf=true->Rep K (unt C F) d v
 | .int _,_,h,_=>h
 | .bl _,_,h,_=>h
 | .non,_,h,_=>h
 | .str _,_,h,_=>h
 | .ty _,_,h,_=>h
 | .fn _,_,h,_=>h
 | .tup ds,v,h,z=>by
  obtain⟨a,vs,e,h1,h2⟩:=h
  exact⟨a,vs,e,unt_seqT ct h1,Reps.unts ct h2 (by simpa[D.lf] using z)⟩
 | .lst ds,v,h,z=>by simp[D.lf]at z
 | .dic,v,h,z=>by simp[D.lf]at z
 | .exc _,v,h,z=>by simp[D.lf]at z
 | .obj _ _ _,v,h,z=>by simp[D.lf]at z
 | .clo _ _ _ _,v,h,z=>by simp[D.lf]at z
theorem Reps.unts {C:List Addr}(ct:CellT C F):∀{ds:List D} {vs:List V},Reps K F ds vs->D.lfs ds=true->Reps K (unt C F) ds vs
 | [],_,h,_=>h
 |d::ds,vs,h,z=>by
  obtain⟨v,r,e,h1,h2⟩:=h
  simp[D.lfs]at z
  exact⟨v,r,e,Rep.unts ct h1 z.1,Reps.unts ct h2 z.2⟩
end
theorem sO_callP {i n:Nat}{q:Str}{st:Stmt}{fs:List Str}{sp:DSp}{a:TA}{As:DA}(ha:SimAF K a As):SimO K (tCallP i q st fs (spV K n sp) a) (dCallP i n q st fs sp As):=λF0 H0 F H Y δ P Q e w q'=>by
 unfold dCallP at w
 split at w
 .rename_i q1 st1 cl cs hs
  obtain⟨rfl,rfl,hf,hfn,hnd,hlen,w⟩:=w
  have e0:=e
  have fh:=(EnvR.ext e).fh
  obtain⟨A,e'⟩:=e
  obtain⟨v,hv,_,f,c,oc,doc,pm,ctv,ws,rfl,h1,h2,h3,h4,h5⟩:=e'.own i _ hs
  have hlw:cl.length=ws.length:=by rw[hlen,h4.length]
  refine⟨f,c,oc,cl,doc,pm,ctv,ws,hv,fh _ _ h1,hf,hnd,by rw[hf];exact hfn,hlw,ha F0 H0 F H Y δ _ _ e0 w λds us F1 H1 w1 x1 r1=>?_⟩
  have s1:Same F H1:=x1.ff.trans x1.fh
  have ct:CellT (cl.map (·.2)) F1:=λb hb=>by
   obtain⟨⟨x,b'⟩,hm,rfl⟩:=List.mem_map.mp hb
   obtain⟨j,hj⟩:=List.getElem?_of_mem hm
   obtain⟨hjl,_⟩:=List.getElem?_eq_some_iff.mp hj
   obtain⟨x',a2,o,u,e1,e2,e3,_⟩:=h5 j (ws[j]'(by rw[<- hlw];exact hjl)) (List.getElem?_eq_getElem _)
   rw[hj]at e1;cases e1
   exact⟨o,_,x1.ff _ _ e2,e3⟩
  refine⟨s1 _ _ h1,s1 _ _ h2,h3,λj v hj=>let⟨x,b,o,u,g1,g2,g3⟩:=h5 j v hj;⟨x,b,o,u,g1,s1 _ _ g2,g3⟩,?_⟩
  obtain⟨l1,l2,ln,w1⟩:=w1
  have rr:Reps K F1 (cs++ds) (ws++us):=(h4.mono x1.ff).append r1
  have lf:D.lfs (cs++ds)=true:=by rw[D.lfs_eq]at l1 l2 ⊢;rw[List.all_append,l1,l2];rfl
  have s2:Same (unt (cl.map (·.2)) F1) (unt (cl.map (·.2)) H1):=λb o z=>by
   by_cases y:b∈cl.map (·.2)
   .rw [unt_in y]at z;cases z
   .rw [unt_out y]at z ⊢;exact x1.fh _ _ z
  refine⟨by rw[<- rr.length];exact ln,_,cs++ds,_,s2,Reps.unts ct rr lf,w1,λr v F' H' p x' r'=>?_⟩
  refine q' r v F1 (kno (cl.map (·.2)) H1 H') p.2 (x1.trans ⟨Same.refl _,λb o z=>?_,λb o z=>?_,λ_ _ z _ _=>z⟩) (r'.smp p.1)
  .by_cases y:b∈cl.map (·.2)
   .rw [kno_in y];exact z
   .rw [kno_out y];exact x'.hh _ _ (by rw[unt_out y];exact z)
  .have z:=x1.fh _ _ z
   by_cases y:b∈cl.map (·.2)
   .rw [kno_in y];exact z
   .rw [kno_out y];exact x'.hh _ _ (by rw[unt_out y];exact z)
 .exact w.elim
end
def spT (K:Frag)(n:Nat)(T:Addr)(pos:Pos)(q:Str)(sp:DSp):Sp:=spL n λvs H Q=>∃F ds P,F T=some (.cod pos q)/\Same F H/\Reps K F ds vs/\sp ds P/\∀r v F' H',P r->Ext F H F' H'->RepN K H F' H' r v->Q v H'
def SimFx (K:Frag)(F0 H0:Hp)(t:TE)(E:DE):Prop:=∀F H Y δ P Q,EnvR K F0 H0 F H Y δ->E δ P->(∀d v F' H',P d->Ext F H F' H'->Rep K F' d v->Q v H')->t Y H Q
def SimAx (K:Frag)(F0 H0:Hp)(t:TA)(E:DA):Prop:=∀F H Y δ P Q,EnvR K F0 H0 F H Y δ->E δ P->(∀ds vs F' H',P ds->Ext F H F' H'->Reps K F' ds vs->Q vs H')->t Y H Q
def SimTx (K:Frag)(F0 H0:Hp)(t:TT)(C:DT):Prop:=∀F H Y δ P Q,EnvR K F0 H0 F H Y δ->C δ P->(∀b F' H',P b->Ext F H F' H'->Q b H')->t Y H Q
section
variable {K:Frag}{F0 H0:Hp}{te ta tb:TE}{t u:TS}{T U:DS}{a:TA}{As:DA}{E Ea Eb:DE}{n:Nat}{sp:DSp}
theorem xF_o {E:DO}(h:SimOx K F0 H0 te E):SimFx K F0 H0 te (dVal E):=λF H Y δ P Q e w q=>h F H Y δ _ Q e w λd v F' H' p x r=>by
 obtain⟨F'',x',_,r'⟩:=r.frz x
 exact q _ v F'' H' p x' r'
theorem xF_f (h:SimF K te E):SimFx K F0 H0 te E:=h F0 H0
theorem xA_f (h:SimAF K a As):SimAx K F0 H0 a As:=h F0 H0
theorem xA_cons (h:SimFx K F0 H0 te E)(g:SimAx K F0 H0 a As):SimAx K F0 H0 (tCons te a) (dCons E As):=λF H Y δ P Q e w q=>h F H Y δ _ _ e w λd v F1 H1 w1 x1 r1=>
 g F1 H1 Y δ _ _ (e.on x1) w1 λds vs F2 H2 w2 x2 r2=>q _ _ F2 H2 w2 (x1.trans x2) ⟨v,vs,rfl,r1.mono x2.ff,r2⟩
theorem xO_call (ha:SimAx K F0 H0 a As):SimOx K F0 H0 (tCall (spV K n sp) [] E0 a) (dCall n sp As):=λF H Y δ P Q e w q=>ha F H Y δ _ _ e w λds vs F1 H1 w1 x1 r1=>by
 rw[List.append_nil]
 exact⟨by rw[<- r1.length];exact w1.1,F1,ds,P,x1.fh,r1,w1.2,λr v F' H' p x' r'=>q r v F' H' p (x1.trans x') (r'.old x1.hh)⟩
theorem xO_callT {Tb:Addr}{pos:Pos}{qn:Str}(hT:F0 Tb=some (.cod pos qn))(ha:SimAx K F0 H0 a As):SimOx K F0 H0 (tCall (spT K n Tb pos qn sp) [] E0 a) (dCall n sp As):=λF H Y δ P Q e w q=>ha F H Y δ _ _ e w λds vs F1 H1 w1 x1 r1=>by
 rw[List.append_nil]
 exact⟨by rw[<- r1.length];exact w1.1,F1,ds,P,x1.ff _ _ ((EnvR.ext e).ff _ _ hT),x1.fh,r1,w1.2,λr v F' H' p x' r'=>q r v F' H' p (x1.trans x') (r'.old x1.hh)⟩
theorem xF_op {R:R2}{r:DR2}(h:OpS K R r)(ha:SimFx K F0 H0 ta Ea)(hb:SimB K tb Eb):SimFx K F0 H0 (tOp R ta tb) (dOp r Ea Eb):=λF H Y δ P Q e w q=>
 ha F H Y δ _ _ e w λx v F1 H1 w1 x1 r1=>hb F0 H0 F1 H1 Y δ _ _ (e.on x1) w1 λy u F2 H2 w2 x2 r2=>
  h F2 H2 x y v u P _ x2.fh ((r1.mono x1.fh).mono x2.hh) r2 w2 λd w F' H' p x' r'=>q d w F' H' p (x1.trans (x2.trans x')) r'
theorem xT_b (h:SimFx K F0 H0 te E):SimTx K F0 H0 (tB te) (dTb E):=λF H Y δ P Q e w q=>h F H Y δ _ _ e w λd v F' H' p x r=>by
 try dsimp only at p
 split at p
 .cases (show v = .bl _ from r)
  exact⟨_,rfl,q _ F' H' p x⟩
 .exact p.elim
theorem xT_not {c:TT}{C:DT}(h:SimTx K F0 H0 c C):SimTx K F0 H0 (tNot c) (dNot C):=λF H Y δ P Q e w q=>h F H Y δ _ _ e w λb F' H' p x=>q _ F' H' p x
theorem xS_if {c:TT}{C:DT}(h:SimTx K F0 H0 c C)(ht:SimX K F0 H0 t T)(hu:SimX K F0 H0 u U):SimX K F0 H0 (tIfS c t u) (sIf C T U):=λF H Y δ De En e l w=>h F H Y δ _ _ e w λb F' H' p x=>by
 cases b with
 |true=>exact iteT (ht F' H' Y δ De En (e.on x) l p)
 |false=>exact iteB rfl (hu F' H' Y δ De En (e.on x) l p)
theorem xO_fz (h:SimFx K F0 H0 te E):SimOx K F0 H0 te (dFz E):=λF H Y δ P Q e w q=>h F H Y δ _ _ e w λd v F' H' p x r=>q _ v F' H' p x (.fz r)
end
section
variable {P:Program}{w:World}{K:Frag}{mg:Str->Option Value}{base:Heap}{x q:Str}{st:Stmt}{f c T:Addr}{fd:FuncData}{pos:Pos}{N ps fs:List Str}{k n:Nat}{sp:DSp}
theorem CloV.of (S:CloScope N fs ps (Xac st))
  (hb:∀(cl:List (Str×Addr)) (doc pm:Value) (c:Addr) (ctv:Value) (us:List Value),us.length=ps.length->bindArgs (fnX (defName st) q (defArgs st) (Xa4 st) (Xac st) cl .none .none doc pm none (.ref c) ctv) ⟨us,[]⟩=pure (ps.zip us)) (hn:n=fs.length+ps.length)
  (hbody:∀(A:Around) (outer:List Env) (s:Shared) (H:Hp) (f:Addr) (cd:Value) (cl:List (Str×Addr)),cl.map (·.1)=fs->Room k (A.deeper (envX q (Xac st) s.heap.objs.size f cd cl))->
   ∃t T,PSs (cxC P w K mg base N q (Xac st) f cd cl A outer s H) (Xa4 st) t/\SimS K t T/\∀ds Pr,sp ds Pr->T {nx:=λ_=>Pr (.fz .non),rt:=Pr} (startV N ds)):CloOk P w K mg base (k+1) q st fs (spV K n sp):=
 clo_of S hb (λvs H Q h=>by rw[<- hn];exact h.1) λA outer s H f cd cl hf hr=>by
  obtain⟨t,T,h1,h2,h3⟩:=hbody A outer s H f cd cl hf hr
  refine⟨t,h1,λvs Q h=>?_⟩
  obtain⟨_,F,ds,Pr,hs,hr',hsp,hq⟩:=h
  refine h2 F H F H (start N vs) (startV N ds) {nx:=λ_=>Pr (.fz .non),rt:=Pr} _ ⟨_,startV_er hs hr'⟩ ⟨λF' H' Y δ e p=>?_,λ_ _ _ _ _ z=>z.elim,λ_ _ _ _ _ z=>z.elim,λF' H' r v x n p=>hq r v F' H' p x n⟩ (h3 ds Pr hsp)
  exact hq _ _ F' H' p e.ext (.fz rfl)
theorem CalT.of {sc:Scope}(Df:DefAt K mg x st f fd)(hc:fd.code = .ref c)(S:FnScope N ps (Xac st))
  (hb:∀(kV doc pm:Value) (an:Option Addr) (cdv ct:Value) (us:List Value),us.length=ps.length->bindArgs (PySem.W.fnOf x x (defArgs st) (Xa4 st) (Xac st) .none kV doc pm an cdv ct) ⟨us,[]⟩=pure (ps.zip us)) (hn:n=ps.length)
  (hbody:∀(A:Around) (outer:List Env) (s:Shared) (H:Hp) (E:XK),Room k (A.deeper (envOfC x (Xac st) s.heap.objs.size f (.ref c)))->∀F:Hp,F T=some (.cod pos q)->∀cl,cl=freeL sc (cxOf CX0 P w K mg base N x (Xac st) f (.ref c) A outer s H E).nox.env->
   ∃t U,PSs (cxOf CX0 P w K mg base N x (Xac st) f (.ref c) A outer s H E).nox (Xa4 st) t/\SimX K F H t U/\∀ds Pr,sp ds Pr->U {nx:=λ_=>Pr (.fz .non),rt:=Pr} (startV N ds)):Cal P w K mg base x (k+1) ps (spT K n T pos q sp):=by
 obtain⟨oc,od,kV,doc,pm,an,cdv,ct,osl,rfl,lk,hcd⟩:=Df.fn.ex
 cases (show cdv = .ref c from hc)
 refine⟨f,_,?_,Df.here,Df.fn.kp,Df.fn.binds hb⟩
 refine fn_of lk hcd S (λvs H Q E h=>by rw[<- hn];exact h.1) λA outer s H vs Q E hr h=>?_
 obtain⟨_,F,ds,Pr,hT,hs,hr',hsp,hq⟩:=h
 obtain⟨t,U,h1,h2,h3⟩:=hbody A outer s H E hr F hT _ rfl
 refine⟨t,h1.nox,h2 F H (start N vs) (startV N ds) {nx:=λ_=>Pr (.fz .non),rt:=Pr} _ ⟨_,startV_er hs hr'⟩ ⟨λF' H' Y δ e p=>?_,λ_ _ _ _ _ z=>z.elim,λ_ _ _ _ _ z=>z.elim,λF' H' r v x n p=>hq r v F' H' p x n⟩ (h3 ds Pr hsp)⟩
 exact hq _ _ F' H' p e.ext (.fz rfl)
end
def spLawT (K:Frag)(T:Addr)(pos:Pos)(q:Str):Sp:=spL 1 λvs H Q=>∃(a:Addr) (ns:List Int),vs=[.ref a]/\SqL K H a (ns.map V.int)/\H T=some (.cod pos q)/\ns.length<=63/\(∀m∈ns,ibN m<=1048576)/\∀H',H' T=some (.cod pos q)->Q (.bl true) H'
theorem law_callT {P:Program}{w:World}{K:Frag}{mg mb:Str->Option Value}{k:Nat}{fa a c T:Addr}{pos:Pos}{q:Str}{fd:FuncData}{x:Str}{s₁:Shared}{vs:List Value}{ns:List Int}
  (KX:K.In s₁.heap) (hns:s₁.heap.Ns mainGlobals mg) (hb:s₁.heap.Ns builtinsNs mb) (hbb:∀x:Str,x ≠ "__name__"->mb x=bootBuiltins x) (hlim:s₁.heap.NoLimit) (hg:s₁.gens=#[])
  (hbm:∃bm ob,mg "__builtins__"=some (.ref bm)/\bm≠builtinsNs/\s₁.heap.get? bm=some ob/\ob.cls = .type "module"/\ob.dict=some builtinsNs/\ob.data = .plain)
  (hC:CodeHd s₁.heap c T) (hT:s₁.heap.get? T=some (tabObj #[])) (hKT:K.lookup T=none)
  (ha:s₁.heap.get? a=some {cls:=.type "list",data:=.seq vs.toArray}) (hi:IntsAre vs ns) (hl:ns.length<=63) (hbits:∀m∈ns,ibN m<=1048576) (hr:Room k callerA)
  (F:∀base:Heap,K.In base->base.Ns mainGlobals mg->base.BuiltinsAt mg T->FnOk P w K mg base CX0 k fa fd [x] (spLawT K T pos q)) (hbind:∀(s:Shared) (u:Value),BindsTo s fd ⟨[u],[]⟩ [(x,u)]):
  codeAny (model P w) callerA (.call (.ref fa) ⟨[.ref a],[]⟩) (λr s'=>r = .ok (.ret (.bool true))/\OldK s₁.heap s'.heap/\s'.os=s₁.os/\AllBare s'.gens) s₁:=by
 have rv:=vals_ints hi
 have lenV:=hi.length
 have hTa:T≠a:=λz=>by rw[z,ha]at hT;cases hT
 have core : ∀H:Hp,H T=some (.cod pos q)->SqL K H a (ns.map V.int)->HOk P w H s₁.heap->(∀b u,H b=some u->b=T∨(b=a/\K.lookup a=none/\∃o y,u = .frz o y))->
   codeAny (model P w) callerA (.call (.ref fa) ⟨[.ref a],[]⟩) (λr s'=>r = .ok (.ret (.bool true))/\OldK s₁.heap s'.heap/\s'.os=s₁.os/\AllBare s'.gens) s₁:=by
  intro H hHT hS hok hA
  have tr:∀{b o},s₁.heap.get? b=some o->o.cls≠.none->o.cls≠.type "list"->H b=none:=λ{b o} e n1 n2=>by
   cases q:H b with
   |none=>rfl
   |some u=>
    rcases hA b u q with rfl | ⟨rfl,_⟩
    .rw [hT]at e;cases e;exact absurd rfl n1
    .rw [ha]at e;cases e;exact absurd rfl n2
  have trd:∀{b o es ep},s₁.heap.get? b=some o->o.data = .dict es ep->H b=none:=λ{b o es ep} e d=>by
   cases q:H b with
   |none=>rfl
   |some u=>
    rcases hA b u q with rfl | ⟨rfl,_⟩
    .rw [hT]at e;cases e;cases d
    .rw [ha]at e;cases e;cases d
  have nsK:∀{b:Addr} {m:Str->Option Value},s₁.heap.Ns b m->(hidT s₁.heap H).Ns b m:=λ{b m} ⟨o,es,ep,e,d,r⟩=>⟨o,es,ep,hidT_get e (trd e d),d,r⟩
  have hKb:K.In (hidT s₁.heap H):=λb o e=>hidT_get (KX b o e) (by
   cases q:H b with
   |none=>rfl
   |some u=>
    rcases hA b u q with rfl | ⟨rfl,z,_⟩
    .rw [hKT]at e;cases e
    .rw [z]at e;cases e)
  have hM:Mod K mg (hidT s₁.heap H):=⟨hKb,nsK hns,⟨mb,nsK hb,hbb⟩,let⟨mc,h1,h2⟩:=hlim;⟨mc,nsK h1,h2⟩⟩
  have hB:(hidT s₁.heap H).BuiltinsAt mg T:=by
   obtain⟨bm,ob,b1,b2,b3,b4,b5,b6⟩:=hbm
   have hm:H bm=none:=tr b3 (by rw[b4];decide) (by rw[b4];decide)
   refine⟨bm,ob,b1,b2,λz=>?_,λz=>?_,hidT_get b3 hm,b4,b5,b6⟩
   .obtain ⟨o,es,ep,e,hd,_⟩:=hns
    rw[z,e]at b3;cases b3;rw[hd]at b6;cases b6
   .rw [z,hHT]at hm;cases hm
  have e0:Env0 P w K mg (hidT s₁.heap H) callerA [] s₁ H:=⟨rfl,hM,λb o e=>of_hidT e,Nat.le_of_eq (hidT_size _ _),trivial,λb hb=>absurd (show b∈([]:List Addr) from hb) (by simp),hok,.of_eq hg⟩
  refine codeAny_mono ((F _ hKb (nsK hns) hB).run callerA [] s₁ H ⟨[.ref a],[]⟩ [.ref a] [.ref a] (λv H'=>v = .bl true/\H' T=some (.cod pos q)) E0 hr e0 (hbind s₁ (.ref a)) (.cons rfl .nil) ⟨rfl,a,ns,rfl,hS,hHT,hl,hbits,λH' z=>⟨rfl,z⟩⟩) λr s' h=>?_
  cases r with
  |error e=>exact (show False from h).elim
  |ok fl =>
   cases fl with
   |next=>exact False.elim h
   |brk=>exact False.elim h
   |cont=>exact False.elim h
   |ret u =>
    obtain⟨v,H',os,bare,un,hok',r',q1,q2⟩:=h
    subst q1
    obtain rfl:u=Value.bool true:=r'
    obtain⟨ps,hps,_⟩:=hok' T _ q2
    have kp:∀b o,b≠T->s₁.heap.get? b=some o->s'.heap.get? b=some o:=λb o n e=>by
     cases q:H b with
     |none=>exact un.keep b o e q (by intro z;exact absurd (show b∈([]:List Addr) from z) (by simp)) (by simp)
     |some u=>
      rcases hA b u q with z | ⟨rfl,_,ob,y,rfl⟩
      .exact absurd z n
      .have z2:=un.frzs _ ob y q
       obtain⟨e1,_⟩:=hok _ _ q
       obtain⟨e2,_⟩:=hok' _ _ z2
       rw[e]at e1;cases e1
       exact e2
    refine⟨rfl,⟨λb o e=>?_,λb o e=>?_⟩,os,bare⟩
    .by_cases hb:b=T
     .subst hb
      rw[hT]at e;cases e
      exact .inr (.inl ⟨(hC.tab hT).isCodeTable,rfl,#[],ps,rfl,by rw[Array.empty_append];exact hps⟩)
     .exact .inl (kp b o hb e)
    .by_cases hb:b=T
     .subst hb;exact⟨_,hps⟩
     .exact ⟨o,kp b o hb e⟩
 have okT:∀H:Hp,ObjOk P w H s₁.heap T (.cod pos q):=λH=>⟨#[],hT,trivial,λv hv=>by cases hv⟩
 have hlz:ns.length<=sizeLine:=Nat.le_trans hl (by rw[sizeLine_eq];decide)
 cases hk:K.lookup a with
 |some o=>
  have e:=KX a o hk
  rw[ha]at e
  cases e
  refine core (λb=>if b=T then some (.cod pos q) else none) (if_pos rfl) (.inr ⟨_,vs.toArray,_,hk,rfl,rfl,rfl,by rw[List.size_toArray,lenV];exact hlz,rv⟩) (λb u z=>?_) λb u z=>?_
  .by_cases hb:b=T
   .have z':=(if_pos hb).symm.trans z;cases z';subst hb;exact okT _
   .have z':=(if_neg hb).symm.trans z;cases z'
  .by_cases hb:b=T
   .exact .inl hb
   .have z':=(if_neg hb).symm.trans z;cases z'
 |none=>
  refine core (λb=>if b=T then some (.cod pos q) else if b=a then some (.frz {cls:=.type "list",data:=.seq vs.toArray} (.lst (ns.map V.int))) else none) (if_pos rfl) (.inl (.inr ⟨{cls:=.type "list",data:=.seq vs.toArray},(if_neg (Ne.symm hTa)).trans (if_pos rfl)⟩)) (λb u z=>?_) λb u z=>?_
  .by_cases hb:b=T
   .have z':=(if_pos hb).symm.trans z;cases z';subst hb;exact okT _
   .have z1:=(if_neg hb).symm.trans z
    by_cases hb2:b=a
    .have z':=(if_pos hb2).symm.trans z1
     cases z'
     subst hb2
     exact⟨ha,by rw[List.length_map];exact hlz,vs,_,rv,ha⟩
    .have z':=(if_neg hb2).symm.trans z1;cases z'
  .by_cases hb:b=T
   .exact .inl hb
   .have z1:=(if_neg hb).symm.trans z
    by_cases hb2:b=a
    .have z':=(if_pos hb2).symm.trans z1
     cases z'
     exact .inr ⟨hb2,hk,_,_,rfl⟩
    .have z':=(if_neg hb2).symm.trans z1;cases z'
theorem law_walkT {l:PySem.W.OpenLaw}{k:Nat}{qp:Program}{loose:List Str}{XP:(Str->Option Value)->Heap->Prop}{YP:World->Heap->Prop}{d:DefRec}{K:Params->Frag}{c T:Addr}{pos:Pos}{q:Str}(hn:l.most=some 63)(hdf:d.params.defaults=[])(hr:Room k callerA)
  (hY:∀(w:World) (h:Heap),YP w h->(K w.params).In h/\h.get? T=some (tabObj #[])) (hC:∀(w:World) (h:Heap),(K w.params).In h->CodeHd h c T) (hKT:∀w:World,(K w.params).lookup T=none)
  (F:∀(w:World) (mg:Str->Option Value) (fa:Addr) (h:Heap),(K w.params).In h->h.Ns mainGlobals mg->mg d.name=some (.ref fa)->
   ∃fd:FuncData,(∀(s:Shared) (u:Value),BindsTo s fd ⟨[u],[]⟩ [("_law_script",u)])/\∀base:Heap,(K w.params).In base->base.Ns mainGlobals mg->base.BuiltinsAt mg T->FnOk l.prog w (K w.params) mg base CX0 k fa fd ["_law_script"] (spLawT (K w.params) T pos q)):
  PySem.W.WalkO qp loose XP YP l.row.toRowW d [] (λf vs=>PySem.call f vs):=by
 refine Att.attach_callB hn hdf λw s₀ s₁ mg mb fa o pm cd doc a vs ns G σ ho hd hcd hmg hobj hints hlen hbits hg=>?_
 obtain⟨KX,hT⟩:=hY w _ σ
 obtain⟨fd,hb,hF⟩:=F w mg fa _ KX G.T.g hmg
 exact law_callT KX G.T.g G.T.b G.T.builtins G.T.nolimit hg G.T.bmain (hC w _ KX) hT (hKT w) hobj hints hlen hbits hr hF hb
theorem law_okT {P:Program}{w:World}{K:Frag}{mg:Str->Option Value}{base:Heap}{st:Stmt}{f T:Addr}{pos:Pos}{q:Str}{fd:FuncData}{N:List Str}{k:Nat}(Df:DefAt K mg "law" st f fd)(S:FnScope N ["_law_script"] (Xac st))
  (hbody:∀(cdv:Value) (A:Around) (outer:List Env) (s:Shared) (H:Hp) (E:XK),Room k (A.deeper (envOfC "law" (Xac st) s.heap.objs.size f cdv))->H T=some (.cod pos q)->
   ∃t U,PSs (cxOf CX0 P w K mg base N "law" (Xac st) f cdv A outer s H E).nox (Xa4 st) t/\SimX K H H t U/\∀ns:List Int,ns.length<=63->(∀m∈ns,ibN m<=1048576)->U {nx:=λ_=>False,rt:=λr=>r = .fz (.bl true)} (startV N [.lst (ns.map .int)])):FnOk P w K mg base CX0 (k+1) f fd ["_law_script"] (spLawT K T pos q):=
 Df.fn.ok S (λvs H Q E h=>h.1) λcdv A outer s H vs Q E hr h=>by
  obtain⟨_,a,ns,rfl,hS,hT,hlen,hbits,q⟩:=h
  obtain⟨t,U,h1,h2,h3⟩:=hbody cdv A outer s H E hr hT
  have hr':Reps K H [.lst (ns.map D.int)] [.ref a]:=⟨_,_,rfl,⟨a,_,rfl,hS,reps_ints.mpr rfl⟩,rfl⟩
  refine⟨t,h1,h2 H H (start N [.ref a]) (startV N [.lst (ns.map .int)]) {nx:=λ_=>False,rt:=λr=>r = .fz (.bl true)} _ ⟨_,startV_er (Same.refl H) hr'⟩ ⟨λF' H' Y δ e p=>p.elim,λ_ _ _ _ _ z=>z.elim,λ_ _ _ _ _ z=>z.elim,λF' H' r v x n p=>?_⟩ (h3 ns hlen hbits)⟩
  subst p
  obtain⟨A,n1,_⟩:=n
  have:v = .bl true:=n1.2
  subst this
  exact q H' (x.hh _ _ hT)
theorem clos_ok {X:Cx}{scope:Scope}(ok:X.Ok)(h:∀x∈scope.names,x.2 = .free->X.env.kindOf x.1=some .cell):closureFor scope X.env=pure (freeL scope X.env):=closureFor_free λx hx e=>ok.has x.1 (.inl (h x hx e))
theorem clos_okE {X:Cx}{scope:Scope}{cl:List (Str×Addr)}(e:cl=freeL scope X.env)(ok:X.Ok)(h:∀x∈scope.names,x.2 = .free->X.env.kindOf x.1=some .cell):closureFor scope X.env=pure cl:=by rw[e];exact clos_ok ok h
theorem seen_of {CX:CXT}{P:Program}{w:World}{K:Frag}{mg:Str->Option Value}{base:Heap}{N fs:List Str}{qual:Str}{scope sc:Scope}{f:Addr}{cd:Value}{A:Around}{outer:List Env}{s:Shared}{H:Hp}{E:XK}{ix:List Nat}
  (h1:((sc.names.filter λx=>x.2 == .free).map (·.1)).reverse=fs) (hnd:fs.Nodup) (hl:fs.length=ix.length) (h2:(fs.zip ix).all (λp=>scope.names.lookup p.1==some .cell && N[p.2]?==some p.1)=true):
  Seen (cxOf CX P w K mg base N qual scope f cd A outer s H E).nox (freeL sc (cxOf CX P w K mg base N qual scope f cd A outer s H E).nox.env) ix:=by
 have hm:(freeL sc (cxOf CX P w K mg base N qual scope f cd A outer s H E).nox.env).map (·.1)=fs:=by
  rw[<- h1];unfold freeL;rw[List.map_reverse,List.map_map];rfl
 have key:∀(i:Nat) x c,(freeL sc (cxOf CX P w K mg base N qual scope f cd A outer s H E).nox.env)[i]?=some (x,c)->∃j:Nat,ix[i]?=some j/\N[j]?=some x/\scope.names.lookup x=some .cell/\(cellsFrom (s.heap.objs.size+1) scope.names []).lookup x=some c:=λi x c e=>by
  have e1:fs[i]?=some x:=by rw[<- hm,List.getElem?_map,e];rfl
  have hi:=(List.getElem?_eq_some_iff.mp e1).1
  have e2:ix[i]?=some ix[i]:=List.getElem?_eq_getElem (by rw[<- hl];exact hi)
  have hz:=List.all_eq_true.mp h2 (x,ix[i]) (List.mem_of_getElem? (i:=i) (by rw[List.getElem?_zip_eq_some];exact⟨e1,e2⟩))
  rw[Bool.and_eq_true,beq_iff_eq,beq_iff_eq]at hz
  refine⟨ix[i],e2,hz.2,hz.1,?_⟩
  obtain⟨c',hc'⟩:=cell_has (n:=s.heap.objs.size+1) hz.1
  have hmem:=List.mem_of_getElem? e
  unfold freeL at hmem
  rw[List.mem_reverse]at hmem
  obtain⟨p,hp,hpe⟩:=List.mem_map.mp hmem
  have h3:p.1=x:=congrArg Prod.fst hpe
  have h4:((cellsFrom (s.heap.objs.size+1) scope.names []).lookup p.1).getD 0=c:=congrArg Prod.snd hpe
  rw[h3,hc']at h4
  rw[hc'];exact congrArg some h4
 refine⟨by rw[<- hl,<- hm,List.length_map],λi x c e=>?_,by rw[hm];exact hnd,λ_ _ _ _=>rfl⟩
 obtain⟨j,k1,k2,k3,k4⟩:=key i x c e
 exact⟨k4,k3,.inr (.inl k3),j,k1,k2⟩
theorem pe_calT {X:Cx}{x:Str}{k:Nat}{ps:List Str}{sp:Sp}{cl:List (Str×Addr)}{ix:List Nat}{e:Expr}{es:List Expr}{t:TA}{p pos:Pos}(C:Cal X.prog X.w X.K X.mg X.base x k ps sp)(hr:Room k X.A)(hg:Gl X x)(S:Seen X cl ix)(ha:PA X (e::es) t)
  (hdb:(x==("__debug__":Str))=false:=by decide) (he:starEach (e::es) X.env=(false,eval e X.env)::starEach es X.env:=by rfl) (hpl:(backTo pos (starEach es X.env)).any (·.1)=false:=by rfl):
  PE X (.Call (.Name x p) (e::es) [] pos) (tCallT sp cl ix t):=by
 obtain⟨f,fd,F,hm,hk,hb⟩:=C.ex
 exact pe_callT F hr hg hm hk hb S ha hdb he hpl
def cdOk (o:Obj)(T:Addr):Bool:=o.cls == .type "code" && match o.data with
 | .fields vs=>vs[11]?==some (.ref T) && vs.getD 11 .none == .ref T && (match vs.getD 18 .none,vs.getD 7 .none,vs.getD 9 .none,vs.getD 10 .none with
  | .str _ _,.int _ _,.bool _,.int _ _=>true
  |_,_,_,_=>false)
 |_=>false
theorem codeHd_in {K:Frag}{base:Heap}{c T:Addr}{o:Obj}(X:K.In base)(l:K.lookup c=some o)(h:cdOk o T=true)(n:c≠T):CodeHd base c T:=by
 unfold cdOk at h
 rw[Bool.and_eq_true,beq_iff_eq]at h
 obtain⟨h1,h⟩:=h
 split at h
 .rename_i vs hd
  simp only[Bool.and_eq_true,beq_iff_eq]at h
  obtain⟨⟨h2,h3⟩,h⟩:=h
  split at h
  .rename_i _ _ _ _ a b c d e f g h5 h6 h7 h8
   exact⟨o,vs,a,b,c,d,e,f,g,X _ _ l,h1,hd,h2,h3,h5,h6,h7,h8,n⟩
  .cases h
 .cases h
theorem lawFT {P:Program}{w:World}{K:Frag}{mg:Str->Option Value}{x:Str}{st:Stmt}{f T:Addr}{fd:FuncData}{k:Nat}{sp:Sp}(Df:DefAt K mg x st f fd)(hb:∀(s:Shared) (v:Value),BindsTo s fd ⟨[v],[]⟩ [("_law_script",v)])(hc:∀base:Heap,K.In base->base.Ns mainGlobals mg->base.BuiltinsAt mg T->FnOk P w K mg base CX0 k f fd ["_law_script"] sp):
  ∃fd:FuncData,(∀(s:Shared) (v:Value),BindsTo s fd ⟨[v],[]⟩ [("_law_script",v)])/\∀base:Heap,K.In base->base.Ns mainGlobals mg->base.BuiltinsAt mg T->FnOk P w K mg base CX0 k f fd ["_law_script"] sp:=⟨fd,hb,hc⟩
def rEqZ:DR2:=λx y P=>match x,y with
 | .int i,.int j=>P (.bl (decide (i=j)))
 | .non,.non=>P (.bl true)
 | .non,.int _=>P (.bl false)
 | .int _,.non=>P (.bl false)
 |_,_=>False
theorem op_eqZ {X:Cx}:OpR X (compareOp .Eq) rEq:=op_eq
theorem oS_eqZ {K:Frag}:OpS K rEq rEqZ:=λF H x y v u P Q s rx ry w q=>by
 unfold rEqZ at w
 split at w
 .cases rx;cases ry;exact⟨rfl,by rw[vd_int];exact q _ _ F H w (Ext.refl s) rfl⟩
 all_goals first |exact w.elim | (cases rx;cases ry;exact⟨rfl,q _ _ F H w (Ext.refl s) rfl⟩)
end L2
namespace Lw
open PySem L2 PyProof.Rows
def top (i:Nat):Stmt:=PySem.Challenge.pw_liftwave_k42_enough.main.body.getD i (.Pass ⟨0,0,0,0⟩)
abbrev vD (d:D):Option Sl:=some (.own (.fz d))
abbrev vI (i:Int):Option Sl:=some (.own (.fz (.int i)))
abbrev vL (ts:List OV):Option Sl:=some (.own (.nl ts))
set_option hygiene false
local macro_rules | `(tactic|walk_at "b")=>`(tactic|first |exact (λ_ _ _ _ _ _ us hl=>match us,hl with | [_],_=>rfl) |exact (λ_ _ _ _ _ _ us hl=>match us,hl with | [_,_],_=>rfl) |exact (λ_ _ _ _ _ _ us hl=>match us,hl with | [_,_,_],_=>rfl) |exact (λ_ _ _ _ _ _ us hl=>match us,hl with | [_,_,_,_],_=>rfl) |exact (λ_ _ _ _ _ _ us hl=>match us,hl with | [_,_,_,_,_],_=>rfl))
local macro_rules | `(tactic|walk_at "S")=>`(tactic|exact⟨rfl,rfl,rfl,by decide +kernel,rfl,by decide +kernel,by decide +kernel⟩)
local macro_rules | `(tactic|fin2)=>`(tactic|simp only[vD,vI,vL,startV,sNext,sSeq,sBreak,sRet,sRetV,sIf,sSet,sAug,sAsg,sApp,sPut,sAugI,sApp2,sExt,sFrz,sNever,dRevL,sFor,gN,gsNil,gsCons,gT,dFz,dVal,dLf,dV,dB,dC,dOp,dUn,rU1,rI2,rI2C,rEqD,rNeD,rIsN,rNotN,D.isNon,dTb,dNot,dAnd,dOr,dIf,dAndV,dOrV,dNotV,dChain,dNil,dCons,dNilO,dConsO,dTup,dLst,ixL,ixT,dCB,dCBo,lenD,lenS,absD,listD,dNoPt,dPt,dSlL,dCall,dCallB,dItL,dItT,dRng1,dRng3,dRev,blkD,dComp,isiD,kitB,allD,maxLD,dBitL,dZip,dZipT,dNotInC,dGetC,dCatB,dRep1,dTruth,sPut2,dSlSt,dCallL,sDefC,dCaps,dCallI,dCallT,dCallP,rEqZ,OV.smp,D.smp,dCallLB,sCallIO,startIO,sTag,dCompB,dRngD,dFld,sFSet,sFNew,sFAug,sFApp,sMeth,dMethP,dMake,startM,dListRev,dJoin,dSlS,dItS,OV.val,OV.vals,OV.vals_eq,D.lf,D.lfs,OV.lf,OV.lfs,List.map_cons,List.map_nil,List.cons_append,List.nil_append,List.length_cons,List.length_nil,List.replicate,Nat.reduceAdd,Nat.reduceSub,Nat.reduceLeDiff,List.getElem?_cons_zero,List.getElem?_cons_succ,List.set_cons_zero,List.set_cons_succ,Bool.not_true,Bool.not_false,Bool.true_and,Bool.and_true,true_and,and_true,if_true,if_false,Bool.false_eq_true,List.length_map,decide_eq_true_eq,Option.some.injEq,Sl.own.injEq,OV.ob.injEq,exists_eq_left',val_fzI,fz_int,set_fzI,app_fzI,CDiv,CMul,CPow,Int.reduceLT,Int.reduceLE,Int.reduceNeg,Int.reducePow,Int.reduceToNat,Int.reduceAdd,Int.reduceSub,true_or,or_true,nat10,kn_int,kn_bool,kn_tuple,kn_list,String.reduceBEq,decide_true,Bool.or_self,Bool.or_false,Bool.not_not,ne_eq,not_true,atI_c0,atI_c1,atI_c2,atI_c3,atI_c4,beq_self_eq_true,Bool.true_or,Bool.or_true])
local macro_rules | `(tactic|gn_on)=>`(tactic| (refine sSeq_k λN hN=>?_;fin2))
local macro_rules | `(tactic|gp_on)=>`(tactic| (refine hN _ ?_;clear hN;clear N))
set_option hygiene true
section
variable (P:Program)(w:World){K:Frag}{mg:Str->Option Value}(base:Heap)
seal L2.PA L2.PE L2.PS L2.PSs L2.PT L2.PW L2.PG L2.PGs L2.PO L2.PI
def bitS (b:Bool):Str:=if b then "1" else "0"
theorem bitS_len (b:Bool):(bitS b).length=1:=by cases b<;>rfl
theorem fm_range {α:Type}:∀l:List α,(List.range l.length).filterMap (λk=>l[k]?)=l
 | []=>rfl
 |a::l=>by
  rw[List.length_cons,List.range_succ_eq_map,List.filterMap_cons]
  simp only[List.getElem?_cons_zero]
  rw[List.filterMap_map]
  have e:((λk=>(a::l)[k]?)∘Nat.succ)=λk=>l[k]?:=by funext k;simp
  rw[e,fm_range l]
theorem idx_from {n i:Nat}(h:i<=n):Builtin.Str.strSliceIndices (some (i:Int)) none 1 n=(List.range (n-i)).map λk=>i+k:=by
 unfold Builtin.Str.strSliceIndices sliceRange
 have e0:¬ ((i:Int)<0):=by lia
 simp only[e0,if_false,show (1:Int) > 0 by decide,if_true]
 have e:max 0 (min (i:Int) (n:Int))=(i:Int):=by lia
 rw[e]
 have c:(if (i:Int)<(n:Int) then ((n:Int)-(i:Int)+1-1) / 1 else 0).toNat=n-i:=by
  split
  .rw [Int.ediv_one];(clear h e0;lia)
  .lia
 rw[c]
 refine List.map_congr_left λk _=>?_
 clear h e0;lia
theorem txt_from (x:Str){i:Nat}(h:i<=x.length):Txt.slice x (some (i:Int)) none=⟨(x.cps.toList.drop i).toArray⟩:=by
 have e:((List.range (x.length-i)).map λk=>i+k).filterMap (x.cps[·]?)=x.cps.toList.drop i:=by
  rw[List.filterMap_map]
  have:=fm_range (x.cps.toList.drop i)
  rw[List.length_drop]at this
  rw[<- this]
  refine congrArg (λg=>List.filterMap g _) (funext λk=>?_)
  simp
 unfold Txt.slice
 rw[idx_from h]
 split
 .rename_i c
  have hi:i=0:=by simp at c;lia
  subst hi
  simp
 .rw [e]
def strOf (bs:List Bool):Str:=Txt.join "" (bs.map bitS)
theorem str_emp:(Str.ofString "")=⟨#[]⟩:=by decide +kernel
theorem strOf_cons (b:Bool)(bs:List Bool):strOf (b::bs)=bitS b++strOf bs:=by
 unfold strOf
 rw[show ∀l,Txt.join (Str.ofString "") l=Str.join (Str.ofString "") l from λl=>PySem.StrLaws.glued_eq_join _ l,show ∀l,Txt.join (Str.ofString "") l=Str.join (Str.ofString "") l from λl=>PySem.StrLaws.glued_eq_join _ l]
 cases bs with
 |nil=>exact (Str.append_empty _).symm
 |cons c cs=>
  show bitS b++Str.ofString ""++Str.join (Str.ofString "") (bitS c::cs.map bitS)=_
  rw[str_emp,show (bitS b++(⟨#[]⟩:Str))=bitS b from Str.append_empty _]
  rfl
theorem app_len (x y:Str):(x++y).length=x.length+y.length:=by
 show (x.cps++y.cps).size=_
 rw[Array.size_append]
 rfl
theorem strOf_len:∀bs:List Bool,(strOf bs).length=bs.length
 | []=>rfl
 |b::bs=>by rw[strOf_cons,app_len,strOf_len bs,bitS_len,List.length_cons];lia
theorem strOf_app:∀(as bs:List Bool),strOf (as++bs)=strOf as++strOf bs
 | [],bs=>(Str.empty_append _).symm
 |a::as,bs=>by rw[List.cons_append,strOf_cons,strOf_app as bs,strOf_cons,Str.append_assoc]
theorem tail_str (b:Bool)(t:Str):Txt.slice (bitS b++t) (some 1) none=t:=by
 have e:(bitS b).cps.toList.length=1:=bitS_len b
 rw[show (some (1:Int))=some ((1:Nat):Int) from rfl,txt_from _ (by rw[app_len,bitS_len];lia)]
 show (⟨(((bitS b).cps++t.cps).toList.drop 1).toArray⟩:Str)=t
 rw[Array.toList_append,List.drop_append_of_le_length (by rw[e];lia),List.drop_of_length_le (by rw[e];lia),List.nil_append]
theorem sgns_app (x y:Str):sgns (x++y)=sgns x++sgns y:=by
 show (x.cps++y.cps).toList.map _=_
 rw[Array.toList_append,List.map_append]
 rfl
theorem sgns_bit (b:Bool):sgns (bitS b)=[bitS b]:=by cases b<;>decide +kernel
theorem sgns_strOf:∀bs:List Bool,sgns (strOf bs)=bs.map bitS
 | []=>rfl
 |b::bs=>by rw[strOf_cons,sgns_app,sgns_bit,sgns_strOf bs];rfl
theorem bitS_one (b:Bool):decide (bitS b=Str.ofString "1")=b:=by cases b<;>decide +kernel
theorem idx_to {n i:Nat}(h:i<=n):Builtin.Str.strSliceIndices none (some (i:Int)) 1 n=List.range i:=by
 unfold Builtin.Str.strSliceIndices sliceRange
 have e0:¬ ((i:Int)<0):=by lia
 simp only[e0,if_false,show (1:Int) > 0 by decide,if_true]
 have e:max 0 (min (i:Int) (n:Int))=(i:Int):=by lia
 rw[e]
 have c:(if (0:Int)<(i:Int) then ((i:Int)-0+1-1) / 1 else 0).toNat=i:=by
  split
  .rw [Int.ediv_one];(clear h e0;lia)
  .clear h e0;lia
 rw[c]
 refine List.ext_getElem? λk=>?_
 by_cases hk:k<i
 .simp
 .simp
theorem fm_take {α:Type}(l:List α){i:Nat}(h:i<=l.length):(List.range i).filterMap (λk=>l[k]?)=l.take i:=by
 have e:∀n:Nat,n<=l.length->(List.range n).filterMap (λk=>l[k]?)=l.take n:=by
  intro n
  induction n with
  |zero=>intro _;simp
  |succ n ih=>
   intro hn
   rw[List.range_succ,List.filterMap_append,ih (by lia),List.take_add_one]
   simp[List.getElem?_eq_getElem (show n<l.length by lia)]
 exact e i h
theorem txt_to (x:Str){i:Nat}(h:i<=x.length):Txt.slice x none (some (i:Int))=⟨(x.cps.toList.take i).toArray⟩:=by
 have e:(List.range i).filterMap (x.cps[·]?)=x.cps.toList.take i:=by
  rw[<- fm_take x.cps.toList (show i<=x.cps.toList.length by rw[Array.length_toList];exact h)]
  simp
 unfold Txt.slice
 rw[idx_to h]
 split
 .rename_i c
  have hi:i=x.length:=by simpa using c
  rw[hi,show x.length=x.cps.toList.length by simp;rfl,List.take_length]
 .rw [e]
theorem str_take (bs:List Bool){i:Nat}(h:i<=bs.length):Txt.slice (strOf bs) none (some (i:Int))=strOf (bs.take i):=by
 rw[txt_to _ (by rw[strOf_len];exact h)]
 have e:strOf bs=strOf (bs.take i)++strOf (bs.drop i):=by rw[<- strOf_app,List.take_append_drop]
 have hl:(strOf (bs.take i)).cps.toList.length=i:=by
  have:=strOf_len (bs.take i)
  rw[List.length_take,Nat.min_eq_left h]at this
  exact this
 rw[e]
 show (⟨(((strOf (bs.take i)).cps++(strOf (bs.drop i)).cps).toList.take i).toArray⟩:Str)=_
 rw[Array.toList_append,List.take_append_of_le_length (by lia),List.take_of_length_le (by lia)]
def Xa2:List Str:=["plane","used","row_ends","walked","ahead"]
structure Pa where
 a:Int
 s:Int
 e:Int
 lo:Int
 hi:Int
def Pa.d (p:Pa):D:=.tup [.int p.a,.int p.s,.int p.e,.tup [.int p.lo,.int p.hi]]
structure Wk where
 pl:Int
 us:Int
 re:List Int
 wk:List Pa
 ah:List Pa
def Wk.ts (w:Wk):List OV:=[.fz (.int w.pl),.fz (.int w.us),.nl (w.re.map λi=>.fz (.int i)),.nl (w.wk.map λp=>.fz p.d),.nl (w.ah.map λp=>.fz p.d)]
def Wk.turn (w:Wk):Wk:=if w.pl-1>=0 then {w with pl:=w.pl-1,ah:=w.wk.reverse,wk:=[]} else {w with pl:=w.pl-1}
def Wk.wake (w:Wk)(p:Pa):Wk:=if p.e-p.s=1 then {w with ah:=w.ah++[⟨2,p.s,p.e,p.lo,p.hi⟩]} else {w with ah:=w.ah++[⟨0,(p.s+p.e) / 2,p.e,p.lo,p.hi⟩,⟨1,p.s,(p.s+p.e) / 2,p.lo,p.hi⟩]}
def Wk.fits (w:Wk):Prop:=w.re.length<900000/\w.wk.length<900000/\w.ah.length<900000
def sp_part_of_one:DSp:=λds P=>∃p:Pa,ds=[p.d]/\P (.fz (.bl (decide (p.e-p.s=1))))
def sp_calm_span:DSp:=λds P=>∃n:Nat,ds=[.int n]/\n<=5000/\P (.fz (.tup [.int (1-2^n),.int (2^n-1)]))
def sp_signed_span:DSp:=λds P=>∃(n:Nat) (b:Bool),ds=[.int n,.bl b]/\n<=5000/\P (.fz (if b then .tup [.int (1-2^n-2^n),.int (-2^n)] else .tup [.int (2^n),.int (2^n+2^n-1)]))
def sp_figured_span:DSp:=λds P=>∃(lo hi:Int) (n:Nat) (b:Bool),ds=[.tup [.int lo,.int hi],.int n,.bl b]/\n<=5000/\P (.fz (if b=decide (lo > 0) then .tup [.int (lo+2^n),.int hi] else .tup [.int lo,.int (hi-2^n)]))
def sp_Walk_turn:DMo:=λts ds P=>∃w:Wk,ts=w.ts/\w.wk.length<=1000000/\ds=[]/\P w.turn.ts
def sp_Walk___init__:DMo:=λts ds P=>∃(m:Int) (n:Nat),ts=[]/\ds=[.int m,.int n]/\n<=5000/\P (Wk.turn ⟨n,0,[],[⟨0,0,m,1-2^n,2^n-1⟩],[]⟩).ts
def sp_Walk_walk_awake:DMo:=λts ds P=>∃(w:Wk) (p:Pa) (lo hi:Int),ts=w.ts/\w.wk.length<1000000/\ds=[p.d,.tup [.int lo,.int hi]]/\P {w with wk:=w.wk++[⟨3,p.s,p.e,lo,hi⟩]:Wk}.ts
def sp_Walk_wake:DMo:=λts ds P=>∃(w:Wk) (p:Pa),ts=w.ts/\w.ah.length<900000/\ds=[p.d]/\P (w.wake p).ts
def sp_Walk_is_whole:DSp:=λds P=>∃w:Wk,ds=[.obj "Walk" Xa2 (OV.vals w.ts)]/\P (.fz (.bl (decide (w.pl<0))))
def Wk.walked (w:Wk)(p:Pa):Wk:={w with wk:=w.wk++[p]}
def Wk.calm (w:Wk)(p:Pa):Wk:=if p.a=1 then {w.walked ⟨0,p.s,p.e,1-2^w.pl.toNat,2^w.pl.toNat-1⟩ with ah:=w.ah.dropLast:Wk}.wake (w.ah.getLastD p) else w.walked ⟨0,p.s,p.e,1-2^w.pl.toNat,2^w.pl.toNat-1⟩
def Pa.figured (p:Pa)(n:Nat)(b:Bool):Pa:=if b=decide (p.lo > 0) then ⟨3,p.s,p.e,p.lo+2^n,p.hi⟩ else ⟨3,p.s,p.e,p.lo,p.hi-2^n⟩
def Pa.signed (p:Pa)(n:Nat)(b:Bool):Pa:=if b then ⟨3,p.s,p.e,1-2^n-2^n,-2^n⟩ else ⟨3,p.s,p.e,2^n,2^n+2^n-1⟩
def Wk.step (w:Wk)(ah:List Pa)(p:Pa)(b:Bool):Wk:=
 if p.a=3 then {w with us:=w.us+1,ah:=ah,wk:=w.wk++[p.figured w.pl.toNat b]} else if p.a=2 then {w with us:=w.us+1,ah:=ah,wk:=w.wk++[p.signed w.pl.toNat b]}
 else if b then Wk.wake {w with us:=w.us+1,ah:=ah} p else Wk.calm {w with us:=w.us+1,ah:=ah} p
def Wk.rowEnd (w:Wk):Wk:=if w.ah=[] then Wk.turn {w with re:=w.re++[w.us]} else w
def sp_Walk_calm:DMo:=λts ds P=>∃(w:Wk) (p:Pa),ts=w.ts/\(w.wk.length<1000000/\w.ah.length<900000)/\ds=[p.d]/\0<=w.pl/\w.pl<=5000/\(p.a=1->w.ah≠[])/\P (w.calm p).ts
def sp_Walk_take:DMo:=λts ds P=>∃(w:Wk) (ah:List Pa) (p:Pa) (b:Bool),ts=w.ts/\w.fits/\ds=[.bl b]/\w.ah=ah++[p]/\0<=w.pl/\w.pl<=5000/\(p.a=1->b=false->ah≠[])/\P ((w.step ah p b).rowEnd).ts
theorem two_nat (n:Nat):(1:Int)*2^((n:Int).toNat)=2^n:=by rw[Int.one_mul,Int.toNat_natCast]
theorem shl_ok {n:Nat}(h:n<=5000):0<=(n:Int)/\(n:Int)<=1000000/\Int.natAbs 1<2^64:=⟨by lia,by lia,by decide⟩
theorem pa_vals (ps:List Pa):(ps.map λp=>OV.fz p.d).map OV.val=ps.map Pa.d:=by rw[List.map_map];rfl
theorem pa_lfs (ps:List Pa):D.lfs (ps.map Pa.d)=true:=by
 rw[D.lfs_eq]
 simp[Pa.d,D.lf,D.lfs]
theorem pa_lf (p:Pa):p.d.lf=true:=by simp[Pa.d,D.lf,D.lfs]
theorem pa_rev (ps:List Pa):List.map OV.fz (ps.map Pa.d).reverse=ps.reverse.map λp=>OV.fz p.d:=by rw[<- List.map_reverse,List.map_map];rfl
theorem pa_app (ps:List Pa)(p:Pa):(ps.map λp=>OV.fz p.d)++[OV.fz p.d]=(ps++[p]).map λp=>OV.fz p.d:=by simp
theorem pa_app5 (ps:List Pa)(a s e lo hi:Int):(ps.map λp=>OV.fz p.d)++[OV.fz (.tup [.int a,.int s,.int e,.tup [.int lo,.int hi]])]=(ps++[(⟨a,s,e,lo,hi⟩:Pa)]).map λ(p:Pa)=>OV.fz p.d:=pa_app ps ⟨a,s,e,lo,hi⟩
theorem pa_eta (p:Pa):p.d = .tup [.int p.a,.int p.s,.int p.e,.tup [.int p.lo,.int p.hi]]:=rfl
abbrev s_part_of_one:Stmt:=top 53
theorem sc_part_of_one:FnScope ["part"] ["part"] (Xac s_part_of_one):=by walk_at "S"
abbrev s_calm_span:Stmt:=top 54
theorem sc_calm_span:FnScope ["plane"] ["plane"] (Xac s_calm_span):=by walk_at "S"
abbrev s_signed_span:Stmt:=top 55
theorem sc_signed_span:FnScope ["plane","below","least"] ["plane","below"] (Xac s_signed_span):=by walk_at "S"
abbrev s_figured_span:Stmt:=top 56
theorem sc_figured_span:FnScope ["span","plane","figure"] ["span","plane","figure"] (Xac s_figured_span):=by walk_at "S"
abbrev s_Walk_turn:Stmt:=inClass (top 57) 1
theorem sc_Walk_turn:FnScope ["self"] ["self"] (Xac s_Walk_turn):=by walk_at "S"
abbrev s_Walk___init__:Stmt:=inClass (top 57) 0
theorem sc_Walk___init__:FnScope ["self","many","planes"] ["self","many","planes"] (Xac s_Walk___init__):=by walk_at "S"
abbrev s_Walk_walk_awake:Stmt:=inClass (top 57) 7
theorem sc_Walk_walk_awake:FnScope ["self","part","span"] ["self","part","span"] (Xac s_Walk_walk_awake):=by walk_at "S"
abbrev s_Walk_wake:Stmt:=inClass (top 57) 8
theorem sc_Walk_wake:FnScope ["self","part","middle"] ["self","part"] (Xac s_Walk_wake):=by walk_at "S"
abbrev s_Walk_is_whole:Stmt:=inClass (top 57) 2
theorem sc_Walk_is_whole:FnScope ["self"] ["self"] (Xac s_Walk_is_whole):=by walk_at "S"
abbrev s_Walk_calm:Stmt:=inClass (top 57) 9
theorem sc_Walk_calm:FnScope ["self","part"] ["self","part"] (Xac s_Walk_calm):=by walk_at "S"
abbrev s_Walk_take:Stmt:=inClass (top 57) 6
theorem sc_Walk_take:FnScope ["self","told","part"] ["self","told"] (Xac s_Walk_take):=by walk_at "S"
theorem ok_part_of_one {f:Addr}{fd:FuncData}(Df:DefAt K mg "part_of_one" s_part_of_one f fd)(B:BltV mg)(KV:KitV K)(g_END:∃t,mg "END"=some (.int 2 t))(g_START:∃t,mg "START"=some (.int 1 t)):
  Cal P w K mg base "part_of_one" 1 ["part"] (spV K 1 sp_part_of_one):=by
 refine CalV.of Df sc_part_of_one (by walk_at "b") rfl (λc A o s H E hr=>⟨_,_,(Xai (Xas (pe_cmpR op_eq (Xay op_sub (Xaz Xau (pv 0) (Xam (by rfl) g_END) (λ_ _=>rfl)) (Xaz Xau (pv 0) (Xam (by rfl) g_START) (λ_ _=>rfl))) Xal (nomark _)))),
  (Xa1 (sO_f (Xao oS_eq (Xaq (Xao oS_i0 (sB_op (OpF.b Xat) Xad (Xaq Xag)) (sB_op (OpF.b Xat) Xad (Xaq Xag)))) (Xaq Xag)))),?_⟩)
 rintro ds Pr ⟨p,rfl,h⟩
 unfold Pa.d
 fin2
 exact h
theorem ok_calm_span {f:Addr}{fd:FuncData}(Df:DefAt K mg "calm_span" s_calm_span f fd)(B:BltV mg)(KV:KitV K):
  Cal P w K mg base "calm_span" 1 ["plane"] (spV K 1 sp_calm_span):=by
 refine CalV.of Df sc_calm_span (by walk_at "b") rfl (λc A o s H E hr=>⟨_,_,(Xai (Xas (pe_tupS (Xaa (Xay op_sub Xal (Xay op_shl Xal (pv 0))) (Xaa (Xay op_sub (Xay op_shl Xal (pv 0)) Xal) Xae))))),
  (Xa1 (sO_f (sF_tup (Xab (Xao oS_i0 (Xaq Xag) (Xaq (Xao oS_i (Xaq Xag) Xad))) (Xab (Xao oS_i0 (Xaq (Xao oS_i (Xaq Xag) Xad)) (Xaq Xag)) Xak))))),?_⟩)
 rintro ds Pr ⟨n,rfl,hn,h⟩
 fin2
 refine⟨shl_ok hn,shl_ok hn,?_⟩
 rw[two_nat]
 exact h
theorem ok_signed_span {f:Addr}{fd:FuncData}(Df:DefAt K mg "signed_span" s_signed_span f fd)(B:BltV mg)(KV:KitV K)(n_least:NsOf K mg "least"):
  Cal P w K mg base "signed_span" 1 ["plane","below"] (spV K 2 sp_signed_span):=by
 refine CalV.of Df sc_signed_span (by walk_at "b") rfl (λc A o s H E hr=>⟨_,_,(Xah (ps_set (i:=2) sc_signed_span.nd rfl (Or.inl rfl) (Xay op_shl Xal (pv 0)))
   (Xah (ps_if (pt_val (pv 1)) (Xai (Xas (pe_tupS (Xaa (Xay op_sub (Xay op_sub Xal (pv 2)) (pv 2)) (Xaa (pe_un un_neg (pv 2)) Xae))))) pss_nil)
   (Xai (Xas (pe_tupS (Xaa (pv 2) (Xaa (Xay op_sub (Xay op_add (pv 2) (pv 2)) Xal) Xae))))))),
  (Xan (sS_set (sO_f (Xao oS_i (Xaq Xag) Xad)))
   (Xan (sS_if (sT_b Xaf) (Xa1 (sO_f (sF_tup (Xab (Xao oS_i0 (Xaq (Xao oS_i0 (Xaq Xag) Xad)) Xad) (Xab (sF_neg Xad) Xak))))) sS_next)
   (Xa1 (sO_f (sF_tup (Xab Xaf (Xab (Xao oS_i0 (Xaq (Xao oS_i0 Xad Xad)) (Xaq Xag)) Xak))))))),?_⟩)
 rintro ds Pr ⟨n,b,rfl,hn,h⟩
 fin2
 refine⟨shl_ok hn,?_⟩
 rw[two_nat]
 cases b with
 |true=>rw[if_pos rfl]at h ⊢;exact h
 |false=>rw[if_neg (by decide)]at h ⊢;exact h
theorem ok_figured_span {f:Addr}{fd:FuncData}(Df:DefAt K mg "figured_span" s_figured_span f fd)(B:BltV mg)(KV:KitV K):
  Cal P w K mg base "figured_span" 1 ["span","plane","figure"] (spV K 3 sp_figured_span):=by
 refine CalV.of Df sc_figured_span (by walk_at "b") rfl (λc A o s H E hr=>⟨_,_,(Xah (ps_if (pt_cmpR op_eq (pv 2) (pe_cmpR op_gt (Xaz Xau (pv 0) Xal (λ_ _=>rfl)) Xal (nomark _)) (nomark _)) (Xai (Xas (pe_tupS (Xaa (Xay op_add (Xaz Xau (pv 0) Xal (λ_ _=>rfl)) (Xay op_shl Xal (pv 1))) (Xaa (Xaz Xau (pv 0) Xal (λ_ _=>rfl)) Xae))))) pss_nil)
   (Xai (Xas (pe_tupS (Xaa (Xaz Xau (pv 0) Xal (λ_ _=>rfl)) (Xaa (Xay op_sub (Xaz Xau (pv 0) Xal (λ_ _=>rfl)) (Xay op_shl Xal (pv 1))) Xae)))))),
  (Xan (sS_if (sT_test (Xao oS_eq Xad (Xaq (Xao oS_b0 (sB_op (OpF.b Xat) Xad (Xaq Xag)) (Xaq Xag))))) (Xa1 (sO_f (sF_tup (Xab (Xao oS_i0 (sB_op (OpF.b Xat) Xad (Xaq Xag)) (Xaq (Xao oS_i (Xaq Xag) Xad))) (Xab (sF_opF Xat Xaf Xag) Xak))))) sS_next)
   (Xa1 (sO_f (sF_tup (Xab (sF_opF Xat Xaf Xag) (Xab (Xao oS_i0 (sB_op (OpF.b Xat) Xad (Xaq Xag)) (Xaq (Xao oS_i (Xaq Xag) Xad))) Xak)))))),?_⟩)
 rintro ds Pr ⟨lo,hi,n,b,rfl,hn,h⟩
 fin2
 rw[two_nat]
 split at h
 .rename_i c;rw[if_pos c];exact⟨shl_ok hn,h⟩
 .rename_i c;rw[if_neg c];exact⟨shl_ok hn,h⟩
theorem ok_Walk_turn {f:Addr}{fd:FuncData}(Df:MetAt K "Walk" "turn" "Walk.turn" s_Walk_turn f fd)(B:BltV mg)(KV:KitV K)(CV_Walk:ClsV K "Walk" Xa2):
  CalM P w K mg base "Walk" "turn" 1 ["self"] (spM K 1 "Walk" Xa2 sp_Walk_turn):=by
 refine CalM.of Df sc_Walk_turn (by walk_at "b") rfl (λc A o s H E hr=>⟨_,_,(Xah (ps_fldaug (pv 0) Xal in_sub)
   (Xai (ps_if (pt_cmpR op_ge (pe_fld (pv 0) rfl) Xal (nomark _)) (Xah (ps_fld (pv 0) (pe_listRev rfl B.list rfl B.reversed (Xaa (pe_fld (pv 0) rfl) Xae)) rfl)
   (Xai (ps_fld (pv 0) (pe_lstS Xae) rfl))) pss_nil))),
  (Xan (sS_faug (j:=0) (g:=λx y=>x-y) CV_Walk (by rfl) (λx y H Q q=>⟨_,_,rfl,rfl,q⟩) (Xaq Xag))
   (sS_if (sT_test (Xao oS_b0 (sB_fld (j:=0) CV_Walk (by rfl) Xad) (Xaq Xag))) (Xan (sS_fset (j:=4) CV_Walk (by rfl) (sO_listRev (Xaj (sB_fld (j:=3) CV_Walk (by rfl) Xad) Xap)))
   (sS_fset (j:=3) CV_Walk (by rfl) (sO_lst sAO_nil))) sS_next)),?_⟩)
 rintro a ts ds Pr ⟨w,rfl,hf,rfl,h⟩
 unfold Wk.ts
 fin2
 rw[pa_vals,pa_rev]
 unfold Wk.turn at h
 split at h
 .rename_i c
  rw[if_pos c]
  exact⟨by decide,pa_lfs _,hf,by decide,h⟩
 .rename_i c
  rw[if_neg c]
  exact h
theorem ok_Walk___init__ {f:Addr}{fd:FuncData}(Df:Fun K "__init__" "Walk.__init__" s_Walk___init__ f fd)(Mf:MakAt K mg "Walk" f)(B:BltV mg)(KV:KitV K)(CV_Walk:ClsV K "Walk" Xa2)(g_WAKING:∃t,mg "WAKING"=some (.int 0 t))(c_calm_span:Cal P w K mg base "calm_span" 1 ["plane"] (spV K 1 sp_calm_span))(c_Walk_turn:CalM P w K mg base "Walk" "turn" 1 ["self"] (spM K 1 "Walk" Xa2 sp_Walk_turn)):
  CalK P w K mg base "Walk" 2 ["self","many","planes"] (spM K 3 "Walk" Xa2 sp_Walk___init__):=by
 refine CalK.of Df Mf sc_Walk___init__ (by walk_at "b") rfl (λc A o s H E hr=>⟨_,_,(Xah (ps_fld (pv 0) (pv 2) rfl)
   (Xah (ps_fld (pv 0) Xal rfl)
   (Xah (ps_fld (pv 0) (pe_lstS Xae) rfl)
   (Xah (ps_fld (pv 0) (pe_lstS (Xaa (pe_tupS (Xaa (Xam (by rfl) g_WAKING) (Xaa Xal (Xaa (pv 1) (Xaa (Xav c_calm_span (hr.mono (by decide)) (by rfl) (Xaa (pv 2) Xae)) Xae))))) Xae)) rfl)
   (Xah (ps_fld (pv 0) (pe_lstS Xae) rfl)
   (Xai (ps_expr (pe_metN0 c_Walk_turn (hr.mono (by decide)) (pv 0))))))))),
  (Xan (sS_fnew (j:=0) CV_Walk (by rfl) (sO_f Xaf))
   (Xan (sS_fnew (j:=1) CV_Walk (by rfl) (sO_f Xag))
   (Xan (sS_fnew (j:=2) CV_Walk (by rfl) (sO_lst sAO_nil))
   (Xan (sS_fnew (j:=3) CV_Walk (by rfl) (sO_lst (sAO_cons (sO_f (sF_tup (Xab Xag (Xab Xag (Xab Xaf (Xab (sF_o (Xar (Xab Xaf Xak))) Xak)))))) sAO_nil)))
   (Xan (sS_fnew (j:=4) CV_Walk (by rfl) (sO_lst sAO_nil))
   (sS_meth CV_Walk (by decide +kernel) Xak)))))),?_⟩)
 rintro a ts ds Pr ⟨m,n,rfl,rfl,hn,h⟩
 fin2
 refine⟨n,rfl,hn,?_⟩
 fin2
 refine⟨⟨n,0,[],[⟨0,0,m,1-2^n,2^n-1⟩],[]⟩,rfl,(by show 1<=1000000;decide),rfl,?_⟩
 exact h
theorem ok_Walk_walk_awake {f:Addr}{fd:FuncData}(Df:MetAt K "Walk" "walk_awake" "Walk.walk_awake" s_Walk_walk_awake f fd)(B:BltV mg)(KV:KitV K)(CV_Walk:ClsV K "Walk" Xa2)(g_FIGURE:∃t,mg "FIGURE"=some (.int 3 t))(g_START:∃t,mg "START"=some (.int 1 t))(g_END:∃t,mg "END"=some (.int 2 t)):
  CalM P w K mg base "Walk" "walk_awake" 1 ["self","part","span"] (spM K 3 "Walk" Xa2 sp_Walk_walk_awake):=by
 refine CalM.of Df sc_Walk_walk_awake (by walk_at "b") rfl (λc A o s H E hr=>⟨_,_,(Xai (ps_expr (pe_bm PySem.F.plainAttrs_list PySem.F.slot_list_append PySem.F.type_list_append mt_append (pe_fld (pv 0) rfl) (Xaa (pe_tupS (Xaa (Xam (by rfl) g_FIGURE) (Xaa (Xaz Xau (pv 1) (Xam (by rfl) g_START) (λ_ _=>rfl)) (Xaa (Xaz Xau (pv 1) (Xam (by rfl) g_END) (λ_ _=>rfl)) (Xaa (pv 2) Xae))))) Xae)))),
  (sS_fapp (j:=3) CV_Walk (by rfl) (sO_f (sF_tup (Xab Xag (Xab (sF_opF Xat Xaf Xag) (Xab (sF_opF Xat Xaf Xag) (Xab Xaf Xak))))))),?_⟩)
 rintro a ts ds Pr ⟨w,p,lo,hi,rfl,hf,rfl,h⟩
 rw[pa_eta]
 unfold Wk.ts
 fin2
 rw[pa_app5]
 exact⟨hf,h⟩
theorem ok_Walk_wake {f:Addr}{fd:FuncData}(Df:MetAt K "Walk" "wake" "Walk.wake" s_Walk_wake f fd)(B:BltV mg)(KV:KitV K)(CV_Walk:ClsV K "Walk" Xa2)(g_SIGN:∃t,mg "SIGN"=some (.int 2 t))(g_WAKING:∃t,mg "WAKING"=some (.int 0 t))(g_WAKING_FIRST:∃t,mg "WAKING_FIRST"=some (.int 1 t))(g_START:∃t,mg "START"=some (.int 1 t))(g_END:∃t,mg "END"=some (.int 2 t))(g_SPAN:∃t,mg "SPAN"=some (.int 3 t))(c_part_of_one:Cal P w K mg base "part_of_one" 1 ["part"] (spV K 1 sp_part_of_one)):
  CalM P w K mg base "Walk" "wake" 2 ["self","part"] (spM K 2 "Walk" Xa2 sp_Walk_wake):=by
 refine CalM.of Df sc_Walk_wake (by walk_at "b") rfl (λc A o s H E hr=>⟨_,_,(Xai (ps_if (pt_val (Xav c_part_of_one (hr.mono (by decide)) (by rfl) (Xaa (pv 1) Xae))) (Xai (ps_expr (pe_bm PySem.F.plainAttrs_list PySem.F.slot_list_append PySem.F.type_list_append mt_append (pe_fld (pv 0) rfl) (Xaa (pe_tupS (Xaa (Xam (by rfl) g_SIGN) (Xaa (Xaz Xau (pv 1) (Xam (by rfl) g_START) (λ_ _=>rfl)) (Xaa (Xaz Xau (pv 1) (Xam (by rfl) g_END) (λ_ _=>rfl)) (Xaa (Xaz Xau (pv 1) (Xam (by rfl) g_SPAN) (λ_ _=>rfl)) Xae))))) Xae)))) (Xah (ps_set (i:=2) sc_Walk_wake.nd rfl (Or.inl rfl) (Xay op_fdiv (Xay op_add (Xaz Xau (pv 1) (Xam (by rfl) g_START) (λ_ _=>rfl)) (Xaz Xau (pv 1) (Xam (by rfl) g_END) (λ_ _=>rfl))) Xal))
   (Xah (ps_expr (pe_bm PySem.F.plainAttrs_list PySem.F.slot_list_append PySem.F.type_list_append mt_append (pe_fld (pv 0) rfl) (Xaa (pe_tupS (Xaa (Xam (by rfl) g_WAKING) (Xaa (pv 2) (Xaa (Xaz Xau (pv 1) (Xam (by rfl) g_END) (λ_ _=>rfl)) (Xaa (Xaz Xau (pv 1) (Xam (by rfl) g_SPAN) (λ_ _=>rfl)) Xae))))) Xae)))
   (Xai (ps_expr (pe_bm PySem.F.plainAttrs_list PySem.F.slot_list_append PySem.F.type_list_append mt_append (pe_fld (pv 0) rfl) (Xaa (pe_tupS (Xaa (Xam (by rfl) g_WAKING_FIRST) (Xaa (Xaz Xau (pv 1) (Xam (by rfl) g_START) (λ_ _=>rfl)) (Xaa (pv 2) (Xaa (Xaz Xau (pv 1) (Xam (by rfl) g_SPAN) (λ_ _=>rfl)) Xae))))) Xae)))))))),
  (sS_if (sT_b (sF_o (Xar (Xab Xaf Xak)))) (sS_fapp (j:=4) CV_Walk (by rfl) (sO_f (sF_tup (Xab Xag (Xab (sF_opF Xat Xaf Xag) (Xab (sF_opF Xat Xaf Xag) (Xab (sF_opF Xat Xaf Xag) Xak))))))) (Xan (sS_set (sO_f (Xao oS_i (Xaq (Xao oS_i0 (sB_op (OpF.b Xat) Xad (Xaq Xag)) (sB_op (OpF.b Xat) Xad (Xaq Xag)))) (Xaq Xag))))
   (Xan (sS_fapp (j:=4) CV_Walk (by rfl) (sO_f (sF_tup (Xab Xag (Xab Xaf (Xab (sF_opF Xat Xaf Xag) (Xab (sF_opF Xat Xaf Xag) Xak)))))))
   (sS_fapp (j:=4) CV_Walk (by rfl) (sO_f (sF_tup (Xab Xag (Xab (sF_opF Xat Xaf Xag) (Xab Xaf (Xab (sF_opF Xat Xaf Xag) Xak)))))))))),?_⟩)
 rintro a ts ds Pr ⟨w,p,rfl,hf,rfl,h⟩
 rw[pa_eta]
 unfold Wk.ts
 fin2
 refine⟨p,rfl,?_⟩
 have hl:=hf
 unfold Wk.wake at h
 fin2
 split at h
 .rename_i c
  rw[if_pos c,pa_app5]
  exact⟨by lia,h⟩
 .rename_i c
  rw[if_neg c,pa_app5,pa_app5]
  refine⟨by lia,by simp;lia,?_⟩
  rw[List.append_assoc]
  exact h
theorem ok_Walk_is_whole {f:Addr}{fd:FuncData}(Df:MetAt K "Walk" "is_whole" "Walk.is_whole" s_Walk_is_whole f fd)(B:BltV mg)(KV:KitV K)(CV_Walk:ClsV K "Walk" Xa2):
  CalM P w K mg base "Walk" "is_whole" 1 ["self"] (spV K 1 sp_Walk_is_whole):=by
 refine CalP.of Df sc_Walk_is_whole (by walk_at "b") rfl (λc A o s H E hr=>⟨_,_,(Xai (Xas (pe_cmpR op_lt (pe_fld (pv 0) rfl) Xal (nomark _)))),
  (Xa1 (sO_f (Xao oS_b0 (sB_fld (j:=0) CV_Walk (by rfl) Xad) (Xaq Xag)))),?_⟩)
 rintro ds Pr ⟨w,rfl,h⟩
 unfold Wk.ts
 fin2
 exact h
theorem ok_Walk_calm {f:Addr}{fd:FuncData}(Df:MetAt K "Walk" "calm" "Walk.calm" s_Walk_calm f fd)(B:BltV mg)(KV:KitV K)(CV_Walk:ClsV K "Walk" Xa2)(g_WAKING_FIRST:∃t,mg "WAKING_FIRST"=some (.int 1 t))(g_WAKING:∃t,mg "WAKING"=some (.int 0 t))(g_ASKS:∃t,mg "ASKS"=some (.int 0 t))(g_START:∃t,mg "START"=some (.int 1 t))(g_END:∃t,mg "END"=some (.int 2 t))(c_calm_span:Cal P w K mg base "calm_span" 1 ["plane"] (spV K 1 sp_calm_span))(c_Walk_wake:CalM P w K mg base "Walk" "wake" 2 ["self","part"] (spM K 2 "Walk" Xa2 sp_Walk_wake)):
  CalM P w K mg base "Walk" "calm" 3 ["self","part"] (spM K 2 "Walk" Xa2 sp_Walk_calm):=by
 refine CalM.of Df sc_Walk_calm (by walk_at "b") rfl (λc A o s H E hr=>⟨_,_,(Xah (ps_expr (pe_bm PySem.F.plainAttrs_list PySem.F.slot_list_append PySem.F.type_list_append mt_append (pe_fld (pv 0) rfl) (Xaa (pe_tupS (Xaa (Xam (by rfl) g_WAKING) (Xaa (Xaz Xau (pv 1) (Xam (by rfl) g_START) (λ_ _=>rfl)) (Xaa (Xaz Xau (pv 1) (Xam (by rfl) g_END) (λ_ _=>rfl)) (Xaa (Xav c_calm_span (hr.mono (by decide)) (by rfl) (Xaa (pe_fld (pv 0) rfl) Xae)) Xae))))) Xae)))
   (Xai (ps_if (pt_cmpR op_eq (Xaz Xau (pv 1) (Xam (by rfl) g_ASKS) (λ_ _=>rfl)) (Xam (by rfl) g_WAKING_FIRST) (nomark _)) (Xai (ps_expr (pe_metN c_Walk_wake (hr.mono (by decide)) (pv 0) (Xaa (pe_bm0 PySem.F.plainAttrs_list PySem.F.slot_list_pop PySem.F.type_list_pop mt_pop (pe_fld (pv 0) rfl)) Xae)))) pss_nil))),
  (Xan (sS_fapp (j:=3) CV_Walk (by rfl) (sO_f (sF_tup (Xab Xag (Xab (sF_opF Xat Xaf Xag) (Xab (sF_opF Xat Xaf Xag) (Xab (sF_o (sO_callB (Xaj (sB_fld (j:=0) CV_Walk (by rfl) Xad) Xap))) Xak)))))))
   (sS_if (sT_test (Xao oS_eq (sB_op (OpF.b Xat) Xad (Xaq Xag)) (Xaq Xag))) (sS_methPop (j:=4) CV_Walk (by rfl) (by decide +kernel)) sS_next)),?_⟩)
 rintro a ts ds Pr ⟨w,p,rfl,hf,rfl,h1,h2,hne,h⟩
 rw[pa_eta]
 unfold Wk.ts
 fin2
 refine⟨hf.1,w.pl.toNat,by rw[Int.toNat_of_nonneg h1],by lia,?_⟩
 fin2
 rw[pa_app5]
 unfold Wk.calm at h
 split at h
 .rename_i c
  rw[if_pos c]
  obtain⟨ah,q,e⟩:∃ah q,w.ah=ah++[q]:=⟨_,_,(List.dropLast_concat_getLast (hne c)).symm⟩
  rw[e]at h ⊢
  rw[List.dropLast_concat,List.getLastD_concat]at h
  unfold sMethPop
  fin2
  refine⟨ah.map λp=>OV.fz p.d,q.d,by rw[List.map_append];rfl,?_⟩
  refine⟨{w.walked ⟨0,p.s,p.e,1-2^w.pl.toNat,2^w.pl.toNat-1⟩ with ah:=ah},q,rfl,?_,rfl,h⟩
  have:=hf.2
  rw[e,List.length_append]at this
  show ah.length<900000
  lia
 .rename_i c
  rw[if_neg c]
  exact h
theorem ok_Walk_take {f:Addr}{fd:FuncData}(Df:MetAt K "Walk" "take" "Walk.take" s_Walk_take f fd)(B:BltV mg)(KV:KitV K)(CV_Walk:ClsV K "Walk" Xa2)(g_FIGURE:∃t,mg "FIGURE"=some (.int 3 t))(g_ASKS:∃t,mg "ASKS"=some (.int 0 t))(g_SIGN:∃t,mg "SIGN"=some (.int 2 t))(g_SPAN:∃t,mg "SPAN"=some (.int 3 t))(c_Walk_walk_awake:CalM P w K mg base "Walk" "walk_awake" 1 ["self","part","span"] (spM K 3 "Walk" Xa2 sp_Walk_walk_awake))(c_figured_span:Cal P w K mg base "figured_span" 1 ["span","plane","figure"] (spV K 3 sp_figured_span))(c_signed_span:Cal P w K mg base "signed_span" 1 ["plane","below"] (spV K 2 sp_signed_span))(c_Walk_wake:CalM P w K mg base "Walk" "wake" 2 ["self","part"] (spM K 2 "Walk" Xa2 sp_Walk_wake))(c_Walk_calm:CalM P w K mg base "Walk" "calm" 3 ["self","part"] (spM K 2 "Walk" Xa2 sp_Walk_calm))(c_Walk_turn:CalM P w K mg base "Walk" "turn" 1 ["self"] (spM K 1 "Walk" Xa2 sp_Walk_turn)):
  CalM P w K mg base "Walk" "take" 4 ["self","told"] (spM K 2 "Walk" Xa2 sp_Walk_take):=by
 refine CalM.of Df sc_Walk_take (by walk_at "b") rfl (λc A o s H E hr=>⟨_,_,(Xah (ps_set (i:=2) sc_Walk_take.nd rfl (Or.inl rfl) (pe_bm0 PySem.F.plainAttrs_list PySem.F.slot_list_pop PySem.F.type_list_pop mt_pop (pe_fld (pv 0) rfl)))
   (Xah (ps_fldaug (pv 0) Xal in_add)
   (Xah (ps_if (pt_cmpR op_eq (Xaz Xau (pv 2) (Xam (by rfl) g_ASKS) (λ_ _=>rfl)) (Xam (by rfl) g_FIGURE) (nomark _)) (Xai (ps_expr (pe_metN c_Walk_walk_awake (hr.mono (by decide)) (pv 0) (Xaa (pv 2) (Xaa (Xav c_figured_span (hr.mono (by decide)) (by rfl) (Xaa (Xaz Xau (pv 2) (Xam (by rfl) g_SPAN) (λ_ _=>rfl)) (Xaa (pe_fld (pv 0) rfl) (Xaa (pv 1) Xae)))) Xae))))) (Xai (ps_if (pt_cmpR op_eq (Xaz Xau (pv 2) (Xam (by rfl) g_ASKS) (λ_ _=>rfl)) (Xam (by rfl) g_SIGN) (nomark _)) (Xai (ps_expr (pe_metN c_Walk_walk_awake (hr.mono (by decide)) (pv 0) (Xaa (pv 2) (Xaa (Xav c_signed_span (hr.mono (by decide)) (by rfl) (Xaa (pe_fld (pv 0) rfl) (Xaa (pv 1) Xae))) Xae))))) (Xai (ps_if (pt_val (pv 1)) (Xai (ps_expr (pe_metN c_Walk_wake (hr.mono (by decide)) (pv 0) (Xaa (pv 2) Xae)))) (Xai (ps_expr (pe_metN c_Walk_calm (hr.mono (by decide)) (pv 0) (Xaa (pv 2) Xae)))))))))
   (Xai (ps_if (pt_not (pt_truth (pe_fld (pv 0) rfl) (λ_=>rfl))) (Xah (ps_expr (pe_bm PySem.F.plainAttrs_list PySem.F.slot_list_append PySem.F.type_list_append mt_append (pe_fld (pv 0) rfl) (Xaa (pe_fld (pv 0) rfl) Xae)))
   (Xai (ps_expr (pe_metN0 c_Walk_turn (hr.mono (by decide)) (pv 0))))) pss_nil))))),
  (Xan (sS_fpop (j:=4) CV_Walk (by rfl))
   (Xan (sS_faug (j:=1) (g:=λx y=>x+y) CV_Walk (by rfl) (λx y H Q q=>⟨_,_,rfl,rfl,q⟩) (Xaq Xag))
   (Xan (sS_if (sT_test (Xao oS_eq (sB_op (OpF.b Xat) Xad (Xaq Xag)) (Xaq Xag))) (sS_meth CV_Walk (by decide +kernel) (Xab Xaf (Xab (sF_o (sO_callB (Xaj (sB_op (OpF.b Xat) Xad (Xaq Xag)) (Xaj (sB_fld (j:=0) CV_Walk (by rfl) Xad) (Xaj Xad Xap))))) Xak))) (sS_if (sT_test (Xao oS_eq (sB_op (OpF.b Xat) Xad (Xaq Xag)) (Xaq Xag))) (sS_meth CV_Walk (by decide +kernel) (Xab Xaf (Xab (sF_o (sO_callB (Xaj (sB_fld (j:=0) CV_Walk (by rfl) Xad) (Xaj Xad Xap)))) Xak))) (sS_if (sT_b Xaf) (sS_meth CV_Walk (by decide +kernel) (Xab Xaf Xak)) (sS_meth CV_Walk (by decide +kernel) (Xab Xaf Xak)))))
   (sS_if (sT_not (sT_truth (sB_fld (j:=4) CV_Walk (by rfl) Xad))) (Xan (sS_fapp (j:=2) CV_Walk (by rfl) (sO_f (sF_lf (sB_fld (j:=1) CV_Walk (by rfl) Xad))))
   (sS_meth CV_Walk (by decide +kernel) Xak)) sS_next)))),?_⟩)
 rintro a ts ds Pr ⟨w,ah,p,b,rfl,hf,rfl,e,h1,h2,hne,h⟩
 unfold Wk.ts
 gn_on
 unfold sFPop
 fin2
 refine⟨ah.map λp=>OV.fz p.d,p.d,by rw[e,List.map_append];rfl,?_⟩
 gp_on
 gn_on
 gp_on
 gn_on
 rw[pa_eta]
 fin2
 have hah:ah.length<900000:=by
  have:=hf.2.2
  rw[e,List.length_append]at this
  lia
 have hwk:w.wk.length<900000:=hf.2.1
 have hre:w.re.length<900000:=hf.1
 have ep:((w.pl.toNat:Nat):Int)=w.pl:=Int.toNat_of_nonneg h1
 have hsl:(w.step ah p b).wk.length<=w.wk.length+1/\(w.step ah p b).re=w.re:=by
  unfold Wk.step Wk.calm Wk.wake Wk.walked
  repeat (any_goals split)
  all_goals simp
 have fin:N [some (Sl.own (OV.ob (some a) (Str.ofString "Walk") Xa2 (w.step ah p b).ts)),some (Sl.own (OV.fz (D.bl b))),some (Sl.own (OV.fz (D.tup [D.int p.a,D.int p.s,D.int p.e,D.tup [D.int p.lo,D.int p.hi]])))]:=by
  gp_on
  generalize w.step ah p b=v at h hsl ⊢
  unfold Wk.ts
  fin2
  unfold Wk.rowEnd at h
  split at h
  .rename_i c
   rw[if_pos (by rw[c];rfl)]
   exact⟨by rw[hsl.2];lia,{v with re:=v.re++[v.us]},rfl,by show v.wk.length<=1000000;lia,rfl,h⟩
  .rename_i c
   rw[if_neg (by simpa using c)]
   exact h
 unfold Wk.step at fin
 split
 .rename_i c
  rw[if_pos c]at fin
  refine⟨p.lo,p.hi,w.pl.toNat,b,by rw[ep],by lia,?_⟩
  unfold Pa.figured at fin
  by_cases hb:b=decide (p.lo > 0)
  .simp only[if_pos hb]at fin ⊢
   exact⟨rfl,{w with us:=w.us+1,ah:=ah},p,_,_,rfl,by show w.wk.length<1000000;lia,rfl,fin⟩
  .simp only[if_neg hb]at fin ⊢
   exact⟨rfl,{w with us:=w.us+1,ah:=ah},p,_,_,rfl,by show w.wk.length<1000000;lia,rfl,fin⟩
 .rename_i c
  rw[if_neg c]at fin
  split
  .rename_i c2
   rw[if_pos c2]at fin
   refine⟨w.pl.toNat,b,by rw[ep],by lia,?_⟩
   unfold Pa.signed at fin
   by_cases hb:b=true
   .simp only[if_pos hb]at fin ⊢
    exact⟨rfl,{w with us:=w.us+1,ah:=ah},p,_,_,rfl,by show w.wk.length<1000000;lia,rfl,fin⟩
   .simp only[if_neg hb]at fin ⊢
    exact⟨rfl,{w with us:=w.us+1,ah:=ah},p,_,_,rfl,by show w.wk.length<1000000;lia,rfl,fin⟩
  .rename_i c2
   rw[if_neg c2]at fin
   split
   .rename_i c3
    rw[if_pos c3]at fin
    exact⟨{w with us:=w.us+1,ah:=ah},p,rfl,hah,rfl,fin⟩
   .rename_i c3
    rw[if_neg c3]at fin
    exact⟨{w with us:=w.us+1,ah:=ah},p,rfl,⟨by show w.wk.length<1000000;lia,hah⟩,rfl,h1,h2,λz=>hne z (by simpa using c3),fin⟩
abbrev s_heights_of:Stmt:=top 61
theorem sc_heights_of:FnScope ["some"] ["some"] (Xac s_heights_of):=by walk_at "S"
def sp_heights_of:DSp:=λds P=>∃xs:List Int,ds=[.lst (xs.map .int)]/\xs.length<=1000000/\P (.nl (xs.map λx=>.fz (.int (ibN x))))
theorem ok_heights_of {f:Addr}{fd:FuncData}(Df:DefAt K mg "heights_of" s_heights_of f fd)(B:BltV mg)(KV:KitV K):
  Cal P w K mg base "heights_of" 1 ["some"] (spV K 1 sp_heights_of):=by
 refine CalV.of Df sc_heights_of (by walk_at "b") rfl (λc A o s H E hr=>⟨_,_,(Xai (Xas (pe_comp rfl (pi_list (pv 0)) (show BlkScope (Xac s_heights_of) _ from⟨rfl,by decide +kernel,by decide +kernel,by decide +kernel⟩) (N:=["number"]) (ix:=[none]) (show CapOf _ _ _ _ from trivial) (λ_ _ _=>(Xa6 (i:=0) (show List.Nodup (["number"]:List Str) by decide +kernel) rfl (Or.inl rfl))) (λ_ _ _=>(pe_bm0 PySem.F.plainAttrs_int PySem.F.slot_int_bit_length PySem.F.type_int_bit_length mt_bitL (Xaw call_abs (by rfl) B.abs boot_abs (Xaa (pv 0) Xae))))))),
  (Xa1 (sO_comp (sI_list Xaf) sG_name (sO_f (sF_bitL (Xaq (sF_cb cS_abs (Xaj Xad Xap))))))),?_⟩)
 rintro ds Pr ⟨xs,rfl,hx,k⟩
 fin2
 refine CmpW.map xs D.int (λx=>.fz (.int (ibN x))) hx (λx _ Q q=>?_) k
 fin2
 rw[ibN_abs]
 exact q
def ansB (xs:List Int)(n:Int)(p:Pa):Bool:=
 if p.a=3 then decide ((xs.getD p.s.toNat 0).natAbs / 2^n.toNat%2=1) else if p.a=2 then decide (xs.getD p.s.toNat 0<0)
 else ((xs.drop p.s.toNat).take (p.e.toNat-p.s.toNat)).any λx=>decide (n<(ibN x:Int))
def PaOk (xs:List Int)(p:Pa):Prop:=0<=p.s/\p.s<p.e/\p.e<=(xs.length:Int)
theorem band1 (a:Nat):Builtin.bitAnd (a:Int) 1=((a%2:Nat):Int):=by
 unfold Builtin.bitAnd
 rw[decide_eq_true (by lia:0<=(a:Int)),decide_eq_true (by lia:(0:Int)<=1)]
 rw[Int.toNat_natCast,show (1:Int).toNat=1 from rfl,Nat.and_one_is_mod]
theorem band1_div (a k:Nat):Builtin.bitAnd ((a:Int) / 2^k) 1=((a / 2^k%2:Nat):Int):=by
 rw[<- band1]
 congr 1
theorem cut_nat {xs:List D}{i j:Int}(h0:0<=i)(h1:i<=j)(h2:j<=(xs.length:Int)):L2.cutD xs (some i) (some j)=(xs.drop i.toNat).take (j.toNat-i.toNat):=by
 unfold L2.cutD
 have e1:HT.sIx xs.length 0 (some i)=i.toNat:=by
  have:=HT.sIx_nat xs.length 0 i.toNat
  rw[Int.toNat_of_nonneg h0]at this
  rw[this];lia
 have e2:HT.sIx xs.length xs.length (some j)=j.toNat:=by
  have:=HT.sIx_nat xs.length xs.length j.toNat
  rw[Int.toNat_of_nonneg (by lia)]at this
  rw[this];(clear h0 h1 e1;lia)
 rw[e1,e2]
inductive Tell (xs:List Int):Wk->List Bool->Prop
 |done {w:Wk} (h:w.pl<0):Tell xs w []
 |step {w:Wk} {ah:List Pa} {p:Pa} {bs:List Bool} (h:0<=w.pl) (h5:w.pl<=5000) (hf:w.fits) (e:w.ah=ah++[p]) (hp:PaOk xs p) (h1:p.a=1->ansB xs w.pl p=false->ah≠[]) (t:Tell xs ((w.step ah p (ansB xs w.pl p)).rowEnd) bs):Tell xs w (ansB xs w.pl p::bs)
def sp_Walk_asked:DSp:=λds P=>∃(w:Wk) (ah:List Pa) (p:Pa),ds=[.obj "Walk" Xa2 (OV.vals w.ts)]/\w.ah=ah++[p]/\w.fits/\P (.fz p.d)
abbrev s_Walk_asked:Stmt:=inClass (top 57) 3
theorem sc_Walk_asked:FnScope ["self"] ["self"] (Xac s_Walk_asked):=by walk_at "S"
theorem ok_Walk_asked {f:Addr}{fd:FuncData}(Df:MetAt K "Walk" "asked" "Walk.asked" s_Walk_asked f fd)(B:BltV mg)(KV:KitV K)(CV_Walk:ClsV K "Walk" Xa2):
  CalM P w K mg base "Walk" "asked" 1 ["self"] (spV K 1 sp_Walk_asked):=by
 refine CalP.of Df sc_Walk_asked (by walk_at "b") rfl (λc A o s H E hr=>⟨_,_,(Xai (Xas (Xaz ix_list (pe_fld (pv 0) rfl) (pe_un un_neg Xal) (λ_ _=>rfl)))),
  (Xa1 (sO_f (sF_lf (sB_op (OpF.b oF_ixL) (sB_fld (j:=4) CV_Walk (by rfl) Xad) (Xaq (sF_neg (Xaq Xag))))))),?_⟩)
 rintro ds Pr ⟨w,ah,p,rfl,e,hf,h⟩
 unfold Wk.ts
 fin2
 rw[pa_vals,e,List.map_append]
 refine⟨p.d,?_,pa_lf p,h⟩
 exact atI_last _ _
def sp_answer:DSp:=λds P=>∃(p:Pa) (n:Int) (xs:List Int),ds=[p.d,.int n,.lst (xs.map .int),.lst (xs.map λx=>.int (ibN x))]/\PaOk xs p/\xs.length<=1000000/\0<=n/\n<=5000/\P (.fz (.bl (ansB xs n p)))
abbrev s_answer:Stmt:=top 63
theorem sc_answer:FnScope ["part","plane","some","heights","number"] ["part","plane","some","heights"] (Xac s_answer):=by walk_at "S"
theorem ok_answer {f:Addr}{fd:FuncData}(Df:DefAt K mg "answer" s_answer f fd)(B:BltV mg)(KV:KitV K)(g_FIGURE:∃t,mg "FIGURE"=some (.int 3 t))(g_SIGN:∃t,mg "SIGN"=some (.int 2 t))(g_START:∃t,mg "START"=some (.int 1 t))(g_ASKS:∃t,mg "ASKS"=some (.int 0 t))(g_END:∃t,mg "END"=some (.int 2 t)):
  Cal P w K mg base "answer" 1 ["part","plane","some","heights"] (spV K 4 sp_answer):=by
 refine CalV.of Df sc_answer (by walk_at "b") rfl (λc A o s H E hr=>⟨_,_,(Xah (ps_set (i:=4) sc_answer.nd rfl (Or.inl rfl) (Xaz ix_list (pv 2) (Xaz Xau (pv 0) (Xam (by rfl) g_START) (λ_ _=>rfl)) (λ_ _=>rfl)))
   (Xah (ps_if (pt_cmpR op_eq (Xaz Xau (pv 0) (Xam (by rfl) g_ASKS) (λ_ _=>rfl)) (Xam (by rfl) g_FIGURE) (nomark _)) (Xai (Xas (pe_cmpR op_eq (Xay op_and (Xay op_shr (Xaw call_abs (by rfl) B.abs boot_abs (Xaa (pv 4) Xae)) (pv 1)) Xal) Xal (nomark _)))) pss_nil)
   (Xah (ps_if (pt_cmpR op_eq (Xaz Xau (pv 0) (Xam (by rfl) g_ASKS) (λ_ _=>rfl)) (Xam (by rfl) g_SIGN) (nomark _)) (Xai (Xas (pe_cmpR op_lt (pv 4) Xal (nomark _)))) pss_nil)
   (Xai (Xas (pe_cmpR op_gt (Xaw (call_maxL rfl) (by rfl) B.max boot_max (Xaa (pe_slice sl_listS (pv 3) (po_some (Xaz Xau (pv 0) (Xam (by rfl) g_START) (λ_ _=>rfl))) (po_some (Xaz Xau (pv 0) (Xam (by rfl) g_END) (λ_ _=>rfl)))) Xae)) (pv 1) (nomark _))))))),
  (Xan (sS_set (sO_f (sF_opF oF_ixL Xaf (sF_opF Xat Xaf Xag))))
   (Xan (sS_if (sT_test (Xao oS_eq (sB_op (OpF.b Xat) Xad (Xaq Xag)) (Xaq Xag))) (Xa1 (sO_f (Xao oS_eq (Xaq (Xao oS_i0 (Xaq (Xao oS_i (Xaq (sF_cb cS_abs (Xaj Xad Xap))) Xad)) (Xaq Xag))) (Xaq Xag)))) sS_next)
   (Xan (sS_if (sT_test (Xao oS_eq (sB_op (OpF.b Xat) Xad (Xaq Xag)) (Xaq Xag))) (Xa1 (sO_f (Xao oS_b0 Xad (Xaq Xag)))) sS_next)
   (Xa1 (sO_f (Xao oS_b0 (Xaq (sF_cb cS_maxL (Xaj (Xaq (sF_o (sO_slL Xaf (sP_pt (sB_op (OpF.b Xat) Xad (Xaq Xag))) (sP_pt (sB_op (OpF.b Xat) Xad (Xaq Xag)))))) Xap))) Xad)))))),?_⟩)
 rintro ds Pr ⟨p,n,xs,rfl,⟨hp1,hp2,hp3⟩,hx,hn0,hn,h⟩
 rw[pa_eta]
 gn_on
 refine⟨_,atI_ints hp1 (by lia),?_⟩
 gp_on
 fin2
 unfold ansB at h
 split
 .rename_i c
  rw[if_pos c]at h
  refine⟨hn0,?_⟩
  rw[band1_div]
  generalize (xs.getD p.s.toNat 0).natAbs / 2^n.toNat%2=t at h ⊢
  rw[decide_eq_decide.mpr (show ((t:Nat):Int)=1↔t=1 by lia)]
  exact h
 .rename_i c
  rw[if_neg c]at h
  split
  .rename_i c2
   rw[if_pos c2]at h
   exact h
  .rename_i c2
   rw[if_neg c2]at h
   refine⟨((xs.drop p.s.toNat).take (p.e.toNat-p.s.toNat)).map λx=>(ibN x:Int),?_,?_,λM hM hA=>?_⟩
   .rw [List.map_map,cut_nat hp1 (by lia) (by simpa using hp3),<- List.map_drop,<- List.map_take,List.map_map,List.map_map]
    rfl
   .rw [List.length_map,List.length_take,List.length_drop]
    lia
   .have e:(((xs.drop p.s.toNat).take (p.e.toNat-p.s.toNat)).any λx=>decide (n<(ibN x:Int)))=decide (M > n):=by
     rw[Bool.eq_iff_iff,List.any_eq_true,decide_eq_true_eq]
     constructor
     .rintro ⟨x,hx1,hx2⟩
      have:=hA _ (List.mem_map.mpr ⟨x,hx1,rfl⟩)
      have:=of_decide_eq_true hx2
      lia
     .intro z
      obtain⟨x,hx1,hx2⟩:=List.mem_map.mp hM
      exact⟨x,hx1,decide_eq_true (by lia)⟩
    rw[e]at h
    exact h
def sp_told:DSp:=λds P=>∃(xs:List Int) (n:Nat) (bs:List Bool),ds=[.lst (xs.map .int),.int n]/\xs.length<=1000000/\n<=5000/\bs.length<=900000/\Tell xs (Wk.turn ⟨n,0,[],[⟨0,0,xs.length,1-2^n,2^n-1⟩],[]⟩) bs/\P (.fz (.str (Txt.join "" (bs.map bitS))))
abbrev s_told:Stmt:=top 64
theorem sc_told:FnScope ["some","planes","walk","heights","bits","bit"] ["some","planes"] (Xac s_told):=by walk_at "S"
theorem ok_told {f:Addr}{fd:FuncData}(Df:DefAt K mg "told" s_told f fd)(B:BltV mg)(KV:KitV K)(CV_Walk:ClsV K "Walk" Xa2)(c_Walk___init__:CalK P w K mg base "Walk" 2 ["self","many","planes"] (spM K 3 "Walk" Xa2 sp_Walk___init__))(c_heights_of:Cal P w K mg base "heights_of" 1 ["some"] (spV K 1 sp_heights_of))(c_Walk_is_whole:CalM P w K mg base "Walk" "is_whole" 1 ["self"] (spV K 1 sp_Walk_is_whole))(c_answer:Cal P w K mg base "answer" 1 ["part","plane","some","heights"] (spV K 4 sp_answer))(c_Walk_asked:CalM P w K mg base "Walk" "asked" 1 ["self"] (spV K 1 sp_Walk_asked))(c_Walk_take:CalM P w K mg base "Walk" "take" 4 ["self","told"] (spM K 2 "Walk" Xa2 sp_Walk_take)):
  Cal P w K mg base "told" 5 ["some","planes"] (spV K 2 sp_told):=by
 refine CalV.of Df sc_told (by walk_at "b") rfl (λc A o s H E hr=>⟨_,_,(Xah (ps_set (i:=2) sc_told.nd rfl (Or.inl rfl) (pe_makN c_Walk___init__ (hr.mono (by decide)) (by rfl) (Xaa (Xaw Xa3 (by rfl) B.len PySem.boot_len (Xaa (pv 0) Xae)) (Xaa (pv 1) Xae))))
   (Xah (ps_set (i:=3) sc_told.nd rfl (Or.inl rfl) (Xav c_heights_of (hr.mono (by decide)) (by rfl) (Xaa (pv 0) Xae)))
   (Xah (ps_set (i:=4) sc_told.nd rfl (Or.inl rfl) (pe_lstS Xae))
   (Xah (ps_while PassesOwn.never (pt_not (pt_val (pe_metN0 c_Walk_is_whole (hr.mono (by decide)) (pv 2)))) (Xah (ps_set (i:=5) sc_told.nd rfl (Or.inl rfl) (Xav c_answer (hr.mono (by decide)) (by rfl) (Xaa (pe_metN0 c_Walk_asked (hr.mono (by decide)) (pv 2)) (Xaa (pe_fld (pv 2) rfl) (Xaa (pv 0) (Xaa (pv 3) Xae))))))
   (Xah (ps_expr (pe_bm PySem.F.plainAttrs_list PySem.F.slot_list_append PySem.F.type_list_append mt_append (pv 4) (Xaa (pe_ifExp (pt_val (pv 5)) pe_str pe_str) Xae)))
   (Xai (ps_expr (pe_metN c_Walk_take (hr.mono (by decide)) (pv 2) (Xaa (pv 5) Xae)))))))
   (Xai (Xas (pe_bm PySem.F.plainAttrs_str PySem.F.slot_str_join PySem.F.type_str_join mt_join pe_str (Xaa (pv 4) Xae)))))))),
  (Xan (sS_set (sO_make CV_Walk (Xab (sF_cb cS_len (Xaj Xad Xap)) (Xab Xaf Xak))))
   (Xan (sS_set (sO_f (sF_o (Xar (Xab Xaf Xak)))))
   (Xan (sS_set (sO_lst sAO_nil))
   (Xan (sS_while (sT_not (sT_b (sF_o (sO_methP CV_Walk (by decide +kernel) Xad Xap)))) (Xan (sS_set (sO_f (sF_o (sO_callB (Xaj (Xaq (sF_o (sO_methP CV_Walk (by decide +kernel) Xad Xap))) (Xaj (sB_fld (j:=0) CV_Walk (by rfl) Xad) (Xaj Xad (Xaj Xad Xap))))))))
   (Xan (sS_app (sO_f (sF_if (sT_b Xaf) sF_str sF_str)))
   (sS_meth CV_Walk (by decide +kernel) (Xab Xaf Xak)))))
   (Xa1 (sO_f (sF_join (Xaq sF_str) Xad))))))),?_⟩)
 rintro ds Pr ⟨xs,n,bs,rfl,hx,hn,hb,ht,h⟩
 gn_on
 refine⟨xs.length,n,rfl,rfl,hn,?_⟩
 gp_on
 gn_on
 refine⟨xs,rfl,hx,?_⟩
 gp_on
 gn_on
 gp_on
 gn_on
 rw[List.map_map]
 refine⟨λm δ=>∃(w:Wk) (rs ds:List Bool) (o:Option Sl),m=rs.length/\Tell xs w rs/\ds++rs=bs/\δ=[some (Sl.own (OV.fz (D.lst (List.map D.int xs)))),some (Sl.own (OV.fz (D.int n))),some (Sl.own (OV.ob none (Str.ofString "Walk") Xa2 w.ts)),some (Sl.own (OV.fz (D.lst (xs.map λx=>D.int (ibN x))))),some (Sl.own (OV.nl (ds.map λb=>OV.fz (D.str (bitS b))))),o],⟨_,_,bs,[],none,rfl,ht,rfl,rfl⟩,?_⟩
 rintro m δ ⟨w,rs,ds,o,rfl,hT,hbs,rfl⟩
 fin2
 refine⟨w,rfl,?_⟩
 fin2
 cases hT with
 |done hl=>
  rw[if_neg (by simp[hl])]
  gp_on
  rw[List.append_nil]at hbs
  subst hbs
  fin2
  refine⟨ds.map bitS,by rw[List.map_map,List.map_map];rfl,?_,h⟩
  have e:∀l:List Bool,((l.map bitS).map (·.length)).sum=l.length:=by
   intro l
   induction l with
   |nil=>rfl
   |cons b l ih=>
    rw[List.map_cons,List.map_cons,List.sum_cons,ih,List.length_cons,bitS_len]
    lia
  rw[e,List.length_map]
  show ds.length+ds.length*0<=16777216
  lia
 | @step _ ah p bs' h0 h5 hf e hp h1 t=>
  rw[if_pos (by simp;omega)]
  refine⟨w,ah,p,by rw[OV.vals_eq],e,hf,?_⟩
  fin2
  refine⟨pa_lf p,_,rfl,p,w.pl,xs,rfl,hp,hx,h0,h5,?_⟩
  have hl:ds.length<1000000:=by
   have:=congrArg List.length hbs
   rw[List.length_append]at this
   lia
  fin2
  refine⟨hl,?_⟩
  cases hA:ansB xs w.pl p with
  |true=>
   rw[hA]at t h1 hbs
   rw[if_pos rfl]
   refine⟨w,ah,p,true,rfl,hf,rfl,e,h0,h5,h1,?_⟩
   refine⟨bs'.length,by simp,_,bs',ds++[true],some (Sl.own (OV.fz (D.bl true))),rfl,t,by simpa using hbs,?_⟩
   rw[List.map_append]
   rfl
  |false=>
   rw[hA]at t h1 hbs
   rw[if_neg (by decide)]
   refine⟨w,ah,p,false,rfl,hf,rfl,e,h0,h5,h1,?_⟩
   refine⟨bs'.length,by simp,_,bs',ds++[false],some (Sl.own (OV.fz (D.bl false))),rfl,t,by simpa using hbs,?_⟩
   rw[List.map_append]
   rfl
theorem ib_lt {x:Int}{k:Nat}:2^k<=x.natAbs↔k<ibN x:=by
 unfold ibN
 split
 .rename_i h
  subst h
  simp
 .rw [<- Nat.le_log2 (by lia)]
  lia
def Kn (x:Int)(k:Nat)(lo hi:Int):Prop:=lo<=x/\x<=hi/\hi-lo=2^k-1/\((∃q:Int,0<q/\lo=q*2^k)∨(∃q:Int,0<q/\hi = -(q*2^k)))
theorem tdec {P:Prop}[Decidable P]:(true=decide P)↔P:=by rw[eq_comm,decide_eq_true_eq]
theorem fdec {P:Prop}[Decidable P]:(false=decide P)↔¬ P:=by rw[eq_comm,decide_eq_false_iff_not]
theorem p2pos (k:Nat):(0:Int)<2^k:=Int.pow_pos (by decide)
theorem p2succ (k:Nat):(2:Int)^(k+1)=2*2^k:=by rw[Int.pow_succ,Int.mul_comm]
theorem Kn.le {x:Int}{k:Nat}{lo hi:Int}(h:Kn x k lo hi):2^k<=(x.natAbs:Int):=by
 obtain⟨h1,h2,h3,h4⟩:=h
 rcases h4 with⟨q,hq,rfl⟩ | ⟨q,hq,rfl⟩
 .have:1*2^k<=q*2^k:=Int.mul_le_mul_of_nonneg_right (by lia) (by lia)
  lia
 .have:1*2^k<=q*2^k:=Int.mul_le_mul_of_nonneg_right (by lia) (by lia)
  lia
theorem bit_of {y u r c:Nat}(hc:0<c)(hu:∃q,u=q*c)(hy:y=2*u+r)(hr:r<2*c):y / c%2=1↔c<=r:=by
 obtain⟨q,rfl⟩:=hu
 have e:y / c=2*q+r / c:=by
  rw[hy,show 2*(q*c)+r=r+2*q*c by rw[Nat.mul_assoc];lia,Nat.add_mul_div_right _ _ hc,Nat.add_comm]
 by_cases hz:c<=r
 .have:r / c=1:=Nat.div_eq_of_lt_le (by (clear hr;lia)) (by omega)
  clear hr;lia
 .have:r / c=0:=Nat.div_eq_of_lt (by (clear hr;lia))
  clear hr;lia
theorem Kn.neg {x:Int}{k:Nat}{lo hi:Int}(h:Kn x k lo hi):Kn (-x) k (-hi) (-lo):=by
 obtain⟨h1,h2,h3,h4⟩:=h
 refine⟨Int.neg_le_neg h2,Int.neg_le_neg h1,by rw[<- h3];lia,?_⟩
 rcases h4 with⟨q,hq,e⟩ | ⟨q,hq,e⟩
 .exact .inr ⟨q,hq,by rw[e]⟩
 .exact .inl ⟨q,hq,by rw[e,Int.neg_neg]⟩
theorem kn_neg {x:Int}{k:Nat}{lo hi:Int}:Kn (-x) k (-hi) (-lo)↔Kn x k lo hi:=⟨λh=>by have:=h.neg;rwa[Int.neg_neg,Int.neg_neg,Int.neg_neg]at this,Kn.neg⟩
theorem kn_up {x lo hi q:Int}{k:Nat}(h1:lo<=x)(h2:x<=hi)(h3:hi-lo=2^(k+1)-1)(hq:0<q)(e:lo=q*2^(k+1)):
  lo > 0/\(Kn x k (lo+2^k) hi↔x.natAbs / 2^k%2=1)/\(Kn x k lo (hi-2^k)↔¬ x.natAbs / 2^k%2=1):=by
 have hk:=Nat.two_pow_pos k
 have hcast:(2:Int)^k=((2^k:Nat):Int):=rfl
 unfold Kn
 rw[p2succ,hcast]at h3 e
 rw[hcast]
 generalize (2^k:Nat)=c at *
 obtain⟨qn,rfl⟩:∃n:Nat,q=n:=⟨q.toNat,(Int.toNat_of_nonneg (Int.le_of_lt hq)).symm⟩
 have hpos:0<qn*c:=Nat.mul_pos (Int.ofNat_lt.mp hq) hk
 have e':lo=((2*(qn*c):Nat):Int):=by rw[e];push_cast;rw[Int.mul_left_comm]
 have f1:lo+(c:Int)=(2*(qn:Int)+1)*c:=by rw[e,Int.add_mul,Int.mul_assoc,Int.mul_left_comm,Int.one_mul]
 have f2:lo=2*(qn:Int)*c:=by rw[e,Int.mul_assoc,Int.mul_left_comm]
 generalize hm:qn*c=m at hpos e'
 obtain⟨xn,rfl⟩:∃n:Nat,x=n:=⟨x.toNat,(Int.toNat_of_nonneg (by lia)).symm⟩
 have key:=bit_of (y:=xn) (r:=xn-2*m) hk ⟨qn,hm.symm⟩ (by clear h2 h3 f1 f2;omega) (by clear f1 f2;lia)
 rw[Int.natAbs_natCast,key]
 have q1:(0:Int)<2*(qn:Int)+1:=by clear f1 f2;lia
 have q2:(0:Int)<2*(qn:Int):=by clear f1 f2;lia
 have g1:lo+(c:Int)<=xn↔c<=xn-2*m:=by clear h2 h3 f1 f2;omega
 have g2:(xn:Int)<=hi-c↔¬ c<=xn-2*m:=by clear f1 f2;lia
 exact⟨by rw[f2];exact Int.mul_pos q2 (Int.ofNat_lt.mpr hk),⟨λg=>g1.mp g.1,λg=>⟨g1.mpr g,h2,by lia,.inl ⟨_,q1,f1⟩⟩⟩,⟨λg=>g2.mp g.2.1,λg=>⟨h1,g2.mpr g,by lia,.inl ⟨_,q2,f2⟩⟩⟩⟩
theorem Kn.figured {x:Int}{k:Nat}{p:Pa}{b:Bool}(h:Kn x (k+1) p.lo p.hi):Kn x k (p.figured k b).lo (p.figured k b).hi↔b=decide (x.natAbs / 2^k%2=1):=by
 obtain⟨h1,h2,h3,h4⟩:=h
 unfold Pa.figured
 rcases h4 with⟨q,hq,e⟩ | ⟨q,hq,e⟩
 .obtain ⟨a1,a2,a3⟩:=kn_up h1 h2 h3 hq e
  rw[decide_eq_true a1]
  cases b with
  |true=>rw[if_pos rfl,tdec,<- a2]
  |false=>rw[if_neg (by decide),fdec,<- a3]
 .obtain ⟨a1,a2,a3⟩:=kn_up (x:=-x) (lo:=-p.hi) (hi:=-p.lo) (Int.neg_le_neg h2) (Int.neg_le_neg h1) (by rw[<- h3];lia) hq (by rw[e,Int.neg_neg])
  have hd:decide (p.lo > 0)=false:=decide_eq_false (by lia)
  rw[hd]
  rw[Int.natAbs_neg,show -p.hi+2^k = -(p.hi-2^k) by lia,kn_neg]at a2
  rw[Int.natAbs_neg,show -p.lo-2^k = -(p.lo+2^k) by lia,kn_neg]at a3
  cases b with
  |true=>rw[if_neg (by decide),tdec,<- a2]
  |false=>rw[if_pos rfl,fdec,<- a3]
theorem Kn.signed {x:Int}{k:Nat}{p:Pa}{b:Bool}(h1:2^k<=x.natAbs)(h2:x.natAbs<2^(k+1)):Kn x k (p.signed k b).lo (p.signed k b).hi↔b=decide (x<0):=by
 have hcast:(2:Int)^k=((2^k:Nat):Int):=rfl
 rw[Nat.pow_succ]at h2
 unfold Kn Pa.signed
 cases b with
 |true=>
  rw[if_pos rfl,tdec]
  dsimp only
  constructor
  .rintro ⟨_,g1,_⟩;omega
  .intro g
   exact⟨by lia,by lia,by lia,.inr ⟨1,by lia,by lia⟩⟩
 |false=>
  rw[if_neg (by decide),fdec]
  dsimp only
  constructor
  .rintro ⟨g1,_⟩;lia
  .intro g
   exact⟨by lia,by lia,by lia,.inl ⟨1,by lia,by lia⟩⟩
def ShK (k:Nat)(lo hi:Int):Prop:=hi-lo=2^k-1/\((∃q:Int,0<q/\lo=q*2^k)∨(∃q:Int,0<q/\hi = -(q*2^k)))
def ShW (k:Nat)(p:Pa):Prop:=0<=p.s/\p.s<p.e/\((p.a=3/\p.e=p.s+1/\ShK k p.lo p.hi)∨(p.a=0/\p.lo=1-2^k/\p.hi=2^k-1))
def ShA (k:Nat)(p:Pa):Prop:=0<=p.s/\p.s<p.e/\((p.a=3/\p.e=p.s+1/\ShK k p.lo p.hi)∨((p.a=0∨p.a=1)/\p.lo=1-2^k/\p.hi=2^k-1)∨(p.a=2/\p.e=p.s+1/\p.lo=1-2^k/\p.hi=2^k-1))
def Low (xs:List Int)(k:Nat)(s e:Int):Prop:=∀i:Nat,s<=i->(i:Int)<e->(xs.getD i 0).natAbs<2^k
def Big (xs:List Int)(k:Nat)(s e:Int):Prop:=∃i:Nat,s<=i/\(i:Int)<e/\2^k<=(xs.getD i 0).natAbs
def CW (xs:List Int)(k:Nat)(p:Pa):Prop:=(p.a=3->p.lo<=xs.getD p.s.toNat 0/\xs.getD p.s.toNat 0<=p.hi)/\(p.a=0->Low xs k p.s p.e)
def CA (xs:List Int)(k:Nat)(p:Pa):Prop:=(p.a=3->p.lo<=xs.getD p.s.toNat 0/\xs.getD p.s.toNat 0<=p.hi)/\(p.a≠3->Low xs (k+1) p.s p.e)/\(p.a=2->Big xs k p.s p.e)
theorem not_low {xs:List Int}{k:Nat}{s e:Int}:¬ Low xs k s e↔Big xs k s e:=by
 constructor
 .intro h
  exact Classical.byContradiction λz=>h λi h1 h2=>Nat.lt_of_not_le λy=>z ⟨i,h1,h2,y⟩
 .rintro ⟨i,h1,h2,h3⟩ h
  have:=h i h1 h2
  lia
theorem Low.mono {xs:List Int}{k l:Nat}{s e:Int}(h:Low xs k s e)(hl:k<=l):Low xs l s e:=λi h1 h2=>Nat.lt_of_lt_of_le (h i h1 h2) (Nat.pow_le_pow_right (by decide) hl)
theorem Low.split {xs:List Int}{k:Nat}{s m e:Int}(h1:s<=m)(h2:m<=e):Low xs k s e↔Low xs k s m/\Low xs k m e:=by
 constructor
 .intro h
  exact⟨λi a b=>h i a (by lia),λi a b=>h i (by lia) b⟩
 .rintro ⟨a,b⟩ i c d
  by_cases z:(i:Int)<m
  .exact a i c z
  .exact b i (by lia) d
theorem Big.split {xs:List Int}{k:Nat}{s m e:Int}(h1:s<=m)(h2:m<=e):Big xs k s e↔Big xs k s m∨Big xs k m e:=by
 rw[<- not_low,Low.split h1 h2,<- not_low,<- not_low]
 exact⟨λz=>(Classical.em _).elim (λa=>.inr λb=>z ⟨a,b⟩) .inl,λz ⟨a,b⟩=>z.elim (λc=>c a) λc=>c b⟩
theorem ans_big {xs:List Int}{k:Nat}{p:Pa}(h3:p.a≠3)(h2:p.a≠2)(h0:0<=p.s)(h1:p.s<p.e)(he:p.e<=(xs.length:Int)):ansB xs (k:Int) p=true↔Big xs k p.s p.e:=by
 unfold ansB Big
 rw[if_neg h3,if_neg h2,List.any_eq_true]
 constructor
 .rintro ⟨x,hx,hk⟩
  obtain⟨i,hi⟩:=List.mem_iff_getElem?.mp hx
  have hil:=(List.getElem?_eq_some_iff.mp hi).1
  rw[List.length_take]at hil
  rw[List.getElem?_take_of_lt (by omega),List.getElem?_drop]at hi
  refine⟨p.s.toNat+i,by lia,by lia,?_⟩
  rw[List.getD_eq_getElem?_getD,hi]
  show 2^k<=x.natAbs
  exact ib_lt.mpr (by have:=of_decide_eq_true hk;lia)
 .rintro ⟨i,a,b,c⟩
  refine⟨xs.getD i 0,List.mem_iff_getElem?.mpr ⟨i-p.s.toNat,?_⟩,decide_eq_true (by have:=ib_lt.mp c;lia)⟩
  rw[List.getElem?_take_of_lt (by (clear c;omega)),List.getElem?_drop,show p.s.toNat+(i-p.s.toNat)=i by (clear h0 he c;lia),List.getD_eq_getElem?_getD,List.getElem?_eq_getElem (by lia)]
  rfl
theorem kn_iff {x:Int}{k:Nat}{lo hi:Int}:Kn x k lo hi↔ShK k lo hi/\lo<=x/\x<=hi:=by
 constructor
 .rintro ⟨a,b,c,d⟩;exact⟨⟨c,d⟩,a,b⟩
 .rintro ⟨⟨c,d⟩,a,b⟩;exact⟨a,b,c,d⟩
theorem ShK.figured {k:Nat}{p:Pa}{b:Bool}(h:ShK (k+1) p.lo p.hi):ShK k (p.figured k b).lo (p.figured k b).hi/\p.lo<=(p.figured k b).lo/\(p.figured k b).hi<=p.hi:=by
 obtain⟨h3,h4⟩:=h
 rw[p2succ]at h3 h4
 have hk:=p2pos k
 unfold ShK Pa.figured
 generalize (2:Int)^k=c at *
 split
 .rename_i hb
  dsimp only
  refine⟨⟨by lia,?_⟩,by lia,by lia⟩
  rcases h4 with⟨q,hq,e⟩ | ⟨q,hq,e⟩
  .exact .inl ⟨2*q+1,by lia,by rw[e,Int.add_mul,Int.mul_left_comm,Int.mul_assoc];lia⟩
  .exact .inr ⟨2*q,by lia,by rw[e,Int.mul_left_comm,Int.mul_assoc]⟩
 .rename_i hb
  dsimp only
  refine⟨⟨by lia,?_⟩,by lia,by lia⟩
  rcases h4 with⟨q,hq,e⟩ | ⟨q,hq,e⟩
  .exact .inl ⟨2*q,by lia,by rw[e,Int.mul_left_comm,Int.mul_assoc]⟩
  .exact .inr ⟨2*q+1,by lia,by rw[e,Int.add_mul,Int.mul_left_comm,Int.mul_assoc];lia⟩
theorem ShK.signed {k:Nat}{p:Pa}{b:Bool}:ShK k (p.signed k b).lo (p.signed k b).hi:=by
 unfold ShK Pa.signed
 split
 .exact ⟨by dsimp only;lia,.inr ⟨1,by lia,by dsimp only;lia⟩⟩
 .exact ⟨by dsimp only;lia,.inl ⟨1,by lia,by dsimp only;lia⟩⟩
theorem fig_iff {xs:List Int}{k:Nat}{p:Pa}{b:Bool}(h3:p.a=3)(hs:ShK (k+1) p.lo p.hi):CW xs k (p.figured k b)↔CA xs k p/\b=ansB xs (k:Int) p:=by
 have ha:ansB xs (k:Int) p=decide ((xs.getD p.s.toNat 0).natAbs / 2^k%2=1):=by
  unfold ansB
  rw[if_pos h3]
  rfl
 have fa:(p.figured k b).a=3/\(p.figured k b).s=p.s/\(p.figured k b).e=p.e:=by unfold Pa.figured;split<;>exact⟨rfl,rfl,rfl⟩
 obtain⟨g1,g2,g3⟩:=hs.figured (b:=b)
 rw[ha]
 unfold CW CA
 rw[fa.1,fa.2.1]
 generalize xs.getD p.s.toNat 0=x
 constructor
 .rintro ⟨h,_⟩
  obtain⟨a1,a2⟩:=h rfl
  have kn:Kn x (k+1) p.lo p.hi:=kn_iff.mpr ⟨hs,by lia,by lia⟩
  exact⟨⟨λ_=>⟨by lia,by lia⟩,λz=>absurd h3 z,λz=>by rw[h3]at z;cases z⟩,kn.figured.mp (kn_iff.mpr ⟨g1,a1,a2⟩)⟩
 .rintro ⟨⟨h,_,_⟩,hb⟩
  have kn:Kn x (k+1) p.lo p.hi:=kn_iff.mpr ⟨hs,h h3⟩
  exact⟨λ_=>(kn_iff.mp (kn.figured.mpr hb)).2,λz=>by cases z⟩
theorem one_low {xs:List Int}{k:Nat}{s:Int}(h:0<=s):Low xs k s (s+1)↔(xs.getD s.toNat 0).natAbs<2^k:=by
 constructor
 .intro z;exact z s.toNat (by lia) (by lia)
 .intro z i a b
  rw[show i=s.toNat by (clear z;lia)];exact z
theorem one_big {xs:List Int}{k:Nat}{s:Int}(h:0<=s):Big xs k s (s+1)↔2^k<=(xs.getD s.toNat 0).natAbs:=by
 rw[<- not_low,one_low h]
 lia
theorem sig_iff {xs:List Int}{k:Nat}{p:Pa}{b:Bool}(h2:p.a=2)(h0:0<=p.s)(he:p.e=p.s+1):CW xs k (p.signed k b)↔CA xs k p/\b=ansB xs (k:Int) p:=by
 have ha:ansB xs (k:Int) p=decide (xs.getD p.s.toNat 0<0):=by
  unfold ansB
  rw[if_neg (by rw[h2];decide),if_pos h2]
 have fa:(p.signed k b).a=3/\(p.signed k b).s=p.s/\(p.signed k b).e=p.e:=by unfold Pa.signed;split<;>exact⟨rfl,rfl,rfl⟩
 rw[ha]
 unfold CW CA
 rw[fa.1,fa.2.1,he]
 simp only[one_low h0,one_big h0]
 generalize xs.getD p.s.toNat 0=x
 constructor
 .rintro ⟨h,_⟩
  have kn:Kn x k (p.signed k b).lo (p.signed k b).hi:=kn_iff.mpr ⟨ShK.signed,h trivial⟩
  have l1:2^k<=x.natAbs:=by
   have:=kn.le
   exact_mod_cast this
  have l2:x.natAbs<2^(k+1):=by
   obtain⟨a1,a2⟩:=h trivial
   have hc:(2:Int)^k=((2^k:Nat):Int):=rfl
   rw[Nat.pow_succ]
   unfold Pa.signed at a1 a2
   split at a1
   .rename_i z
    rw[if_pos z]at a2
    dsimp only at a1 a2
    clear h2 h0 he fa;lia
   .rename_i z
    rw[if_neg z]at a2
    dsimp only at a1 a2
    clear h2 h0 he fa;lia
  exact⟨⟨(λz=>by rw[h2]at z;cases z),λ_=>l2,λ_=>l1⟩,(Kn.signed l1 l2).mp kn⟩
 .rintro ⟨⟨_,l2,l1⟩,hb⟩
  exact⟨λ_=>(kn_iff.mp ((Kn.signed (l1 h2) (l2 (by rw[h2];decide))).mpr hb)).2,λz=>by cases z⟩
theorem tdec' {b:Bool}:(true=b)↔b=true:=eq_comm
theorem fdec' {b:Bool}:(false=b)↔¬ b=true:=by cases b<;>simp
def Pair (xs:List Int)(k:Nat)(ah:List Pa):Prop:=∀r q p,ah=r++[q,p]->p.a=1->Big xs k p.s q.e
def CAs (xs:List Int)(k:Nat)(ah:List Pa):Prop:=(∀p∈ah,CA xs k p)/\Pair xs k ah
theorem pair_no {xs:List Int}{k:Nat}{ah:List Pa}{p:Pa}(h:p.a≠1):Pair xs k (ah++[p]):=λr q p' e h'=>by
 have:ah++[p]=(r++[q])++[p']:=by rw[e];simp
 obtain⟨_,e2⟩:=List.append_inj' this rfl
 rw[List.cons.inj e2 |>.1]at h
 exact absurd h' h
theorem pair_none {xs:List Int}{k:Nat}{ah:List Pa}(h:∀z∈ah,z.a≠1):Pair xs k ah:=λr q p e h'=>absurd h' (h p (by rw[e];simp))
theorem pair_two {xs:List Int}{k:Nat}{ah:List Pa}{q p:Pa}(h:p.a=1):Pair xs k (ah++[q,p])↔Big xs k p.s q.e:=by
 constructor
 .intro z;exact z ah q p rfl h
 .intro z r q' p' e _
  obtain⟨_,e2⟩:=List.append_inj' e rfl
  obtain⟨a,b⟩:=List.cons.inj e2
  obtain⟨c,_⟩:=List.cons.inj b
  rw[<- a,<- c];exact z
theorem wake_iff {xs:List Int}{k:Nat}{w:Wk}{q:Pa}(h0:0<=q.s)(h1:q.s<q.e)(hn:∀z∈w.ah,z.a≠1):
  CAs xs k (w.wake q).ah↔(∀z∈w.ah,CA xs k z)/\Low xs (k+1) q.s q.e/\Big xs k q.s q.e:=by
 unfold Wk.wake CAs
 split
 .dsimp only
  have hp:Pair xs k (w.ah++[⟨2,q.s,q.e,q.lo,q.hi⟩]):=pair_no (by show ¬ (2:Int)=1;decide)
  have hc:CA xs k ⟨2,q.s,q.e,q.lo,q.hi⟩↔Low xs (k+1) q.s q.e/\Big xs k q.s q.e:=by
   unfold CA
   dsimp only
   exact⟨λz=>⟨z.2.1 (by decide),z.2.2 rfl⟩,λz=>⟨λy=>absurd y (by decide),λ_=>z.1,λ_=>z.2⟩⟩
  rw[List.forall_mem_append,List.forall_mem_singleton,hc]
  exact⟨λz=>z.1,λz=>⟨z,hp⟩⟩
 .dsimp only
  have hm1:q.s<(q.s+q.e) / 2:=by lia
  have hm2:(q.s+q.e) / 2<q.e:=by lia
  generalize (q.s+q.e) / 2=m at hm1 hm2
  have hc:∀(a s e:Int),a≠3->a≠2->(CA xs k ⟨a,s,e,q.lo,q.hi⟩↔Low xs (k+1) s e):=by
   intro a s e n3 n2
   unfold CA
   exact⟨λz=>z.2.1 n3,λz=>⟨λy=>absurd y n3,λ_=>z,λy=>absurd y n2⟩⟩
  have hp:=pair_two (xs:=xs) (k:=k) (ah:=w.ah) (q:=⟨0,m,q.e,q.lo,q.hi⟩) (p:=⟨1,q.s,m,q.lo,q.hi⟩) rfl
  rw[hp,List.forall_mem_append,List.forall_mem_cons,List.forall_mem_singleton,hc _ _ _ (by decide) (by decide),hc _ _ _ (by decide) (by decide)]
  have hs:=Low.split (xs:=xs) (k:=k+1) (s:=q.s) (m:=m) (e:=q.e) (by lia) (by lia)
  exact⟨λ⟨⟨a,b,c⟩,d⟩=>⟨a,hs.mpr ⟨c,b⟩,d⟩,λ⟨a,cb,d⟩=>⟨⟨a,(hs.mp cb).2,(hs.mp cb).1⟩,d⟩⟩
theorem wake_wk (w:Wk)(q:Pa):(w.wake q).wk=w.wk/\(w.wake q).pl=w.pl/\(w.wake q).us=w.us/\(w.wake q).re=w.re:=by
 unfold Wk.wake
 split<;>exact⟨rfl,rfl,rfl,rfl⟩
structure Sib (ah:List Pa) (p:Pa):Prop where
 no:∀z∈ah,z.a≠1
 sib:p.a=1->∃r q,ah=r++[q]/\q.a=0/\q.s=p.e/\q.s<q.e/\0<=q.s
def Comp (xs:List Int)(k:Nat)(w:Wk):Prop:=(∀p∈w.wk,CW xs k p)/\CAs xs k w.ah
theorem step_iff {xs:List Int}{k:Nat}{w:Wk}{ah:List Pa}{p:Pa}{b:Bool}(hk:w.pl=k)(e:w.ah=ah++[p])(hs:ShA (k+1) p)(hb:Sib ah p)(he:p.e<=(xs.length:Int)):
  Comp xs k (w.step ah p b)↔Comp xs k w/\b=ansB xs (k:Int) p:=by
 obtain⟨h0,h1,h2⟩:=hs
 have ek:w.pl.toNat=k:=by lia
 have hno:=hb.no
 have hpn:Pair xs k ah:=pair_none hno
 unfold Wk.step Comp
 rw[e]
 by_cases c3:p.a=3
 .rw [if_pos c3,ek]
  dsimp only
  have hsh:ShK (k+1) p.lo p.hi:=by
   rcases h2 with z |z |z
   .exact z.2.2
   .rcases z.1 with y |y<;>rw[c3]at y<;>cases y
   .rw [c3]at z;cases z.1
  have hp:Pair xs k (ah++[p]):=pair_no (by rw[c3];decide)
  unfold CAs
  rw[List.forall_mem_append,List.forall_mem_singleton,fig_iff c3 hsh,List.forall_mem_append,List.forall_mem_singleton]
  exact⟨λ⟨⟨a,b,c⟩,d,_⟩=>⟨⟨a,⟨d,b⟩,hp⟩,c⟩,λ⟨⟨a,⟨d,b⟩,_⟩,c⟩=>⟨⟨a,b,c⟩,d,hpn⟩⟩
 .rw [if_neg c3]
  by_cases c2:p.a=2
  .rw [if_pos c2,ek]
   dsimp only
   have hsh:p.e=p.s+1:=by
    rcases h2 with z |z |z
    .rw [c2]at z;cases z.1
    .rcases z.1 with y |y<;>rw[c2]at y<;>cases y
    .exact z.2.1
   have hp:Pair xs k (ah++[p]):=pair_no (by rw[c2];decide)
   unfold CAs
   rw[List.forall_mem_append,List.forall_mem_singleton,sig_iff c2 h0 hsh,List.forall_mem_append,List.forall_mem_singleton]
   exact⟨λ⟨⟨a,b,c⟩,d,_⟩=>⟨⟨a,⟨d,b⟩,hp⟩,c⟩,λ⟨⟨a,⟨d,b⟩,_⟩,c⟩=>⟨⟨a,b,c⟩,d,hpn⟩⟩
  .rw [if_neg c2]
   have hans:=ans_big (xs:=xs) (k:=k) c3 c2 h0 h1 he
   have hca:CA xs k p↔Low xs (k+1) p.s p.e:=by
    unfold CA
    exact⟨λz=>z.2.1 c3,λz=>⟨λy=>absurd y c3,λ_=>z,λy=>absurd y c2⟩⟩
   cases b with
   |true=>
    rw[if_pos rfl,(wake_wk _ _).1,wake_iff h0 h1 hno,tdec',hans]
    unfold CAs
    rw[List.forall_mem_append,List.forall_mem_singleton,hca]
    constructor
    .rintro ⟨a,d,l,g⟩
     refine⟨⟨a,⟨d,l⟩,?_⟩,g⟩
     by_cases c1:p.a=1
     .obtain ⟨r,q,rfl,_,q2,q3,_⟩:=hb.sib c1
      rw[List.append_assoc]
      refine (pair_two c1).mpr ?_
      obtain⟨i,i1,i2,i3⟩:=g
      exact⟨i,i1,by (clear hk he ek i3;lia),i3⟩
     .exact pair_no c1
    .rintro ⟨⟨a,⟨d,l⟩,_⟩,g⟩
     exact⟨a,d,l,g⟩
   |false=>
    rw[if_neg (by decide),fdec',hans]
    have hcw:∀lo hi:Int,CW xs k ⟨0,p.s,p.e,lo,hi⟩↔Low xs k p.s p.e:=by
     intro lo hi
     unfold CW
     dsimp only
     exact⟨λz=>z.2 rfl,λz=>⟨λy=>absurd y (by decide),λ_=>z⟩⟩
    have hlb:Low xs k p.s p.e↔Low xs (k+1) p.s p.e/\¬ Big xs k p.s p.e:=by
     rw[<- not_low,Classical.not_not]
     exact⟨λz=>⟨z.mono (by lia),z⟩,λz=>z.2⟩
    unfold Wk.calm
    by_cases c1:p.a=1
    .rw [if_pos c1]
     obtain⟨r,q,rfl,qa,q2,q3,q0⟩:=hb.sib c1
     have hca':CA xs k q↔Low xs (k+1) q.s q.e:=by
      unfold CA
      exact⟨λz=>z.2.1 (by rw[qa];decide),λz=>⟨(λy=>by rw[qa]at y;cases y),λ_=>z,(λy=>by rw[qa]at y;cases y)⟩⟩
     have hpr:Pair xs k (r++[q]++[p])↔Big xs k p.s q.e:=by rw[List.append_assoc];exact pair_two c1
     have hbs:=Big.split (xs:=xs) (k:=k) (s:=p.s) (m:=p.e) (e:=q.e) (by (clear hk he ek;lia)) (by (clear hk he ek;lia))
     rw[(wake_wk _ _).1,wake_iff (by rw[List.getLastD_concat];exact q0) (by rw[List.getLastD_concat];exact q3) (by
      dsimp only
      rw[List.dropLast_concat]
      exact λz hz=>hno z (by simp[hz]))]
     unfold Wk.walked CAs
     dsimp only
     rw[List.dropLast_concat,List.getLastD_concat,List.forall_mem_append,List.forall_mem_singleton,hcw,hlb,hpr,hbs,List.forall_mem_append,List.forall_mem_singleton,List.forall_mem_append,List.forall_mem_singleton,hca,hca',<- q2]
     constructor
     .rintro ⟨⟨a,l,n⟩,d,lq,bq⟩
      exact⟨⟨a,⟨⟨d,lq⟩,l⟩,.inr bq⟩,n⟩
     .rintro ⟨⟨a,⟨⟨d,lq⟩,l⟩,pb⟩,n⟩
      exact⟨⟨a,l,n⟩,d,lq,pb.elim (λz=>absurd z n) id⟩
    .rw [if_neg c1]
     unfold Wk.walked CAs
     dsimp only
     have hp:Pair xs k (ah++[p]):=pair_no c1
     rw[List.forall_mem_append,List.forall_mem_singleton,hcw,hlb,List.forall_mem_append,List.forall_mem_singleton,hca]
     exact⟨λ⟨⟨a,l,n⟩,d,_⟩=>⟨⟨a,⟨d,l⟩,hp⟩,n⟩,λ⟨⟨a,⟨d,l⟩,_⟩,n⟩=>⟨⟨a,l,n⟩,d,hpn⟩⟩
def CompW (xs:List Int)(w:Wk):Prop:=Comp xs w.pl.toNat w
theorem turn_iff {xs:List Int}{w:Wk}(h0:0<=w.pl)(ha:w.ah=[])(hk:∀p∈w.wk,p.a=0∨p.a=3):CompW xs w.turn↔CompW xs w:=by
 unfold CompW Wk.turn
 split
 .dsimp only
  obtain⟨k,hk1⟩:∃k:Nat,w.pl=k+1:=⟨(w.pl-1).toNat,by omega⟩
  rw[hk1,show ((k:Int)+1-1).toNat=k by lia]
  unfold Comp CAs
  rw[ha]
  have hp:Pair xs k w.wk.reverse:=pair_none λz hz=>by
   rcases hk z (by simpa using hz) with y |y<;>rw[y]<;>decide
  have hp2:Pair xs (k+1) ([]:List Pa):=pair_none λz hz=>by cases hz
  have hc:∀p∈w.wk,(CA xs k p↔CW xs (k+1) p):=by
   intro p hp
   unfold CA CW
   rcases hk p hp with y |y
   .rw [y]
    exact⟨λz=>⟨z.1,λ_=>z.2.1 (by decide)⟩,λz=>⟨z.1,λ_=>z.2 rfl,λy=>absurd y (by decide)⟩⟩
   .rw [y]
    exact⟨λz=>⟨z.1,λy=>absurd y (by decide)⟩,λz=>⟨z.1,λy=>absurd rfl y,λy=>absurd y (by decide)⟩⟩
  constructor
  .rintro ⟨_,a,_⟩
   exact⟨λp hp=>(hc p hp).mp (a p (by simpa using hp)),(λp hp=>by cases hp),hp2⟩
  .rintro ⟨a,_,_⟩
   exact⟨(λp hp=>by cases hp),λp hq=>(hc p (by simpa using hq)).mpr (a p (by simpa using hq)),hp⟩
 .dsimp only
  have e:w.pl=0:=by lia
  rw[e]
  exact Iff.rfl
theorem rowEnd_iff {xs:List Int}{w:Wk}(h0:0<=w.pl)(hk:∀p∈w.wk,p.a=0∨p.a=3):CompW xs w.rowEnd↔CompW xs w:=by
 unfold Wk.rowEnd
 split
 .rename_i c
  exact turn_iff (w:={w with re:=w.re++[w.us]}) h0 c hk
 .exact Iff.rfl
def Chain:Int->List Pa->Int->Prop
 |a,[],b=>a=b
 |a,p::ps,b=>p.s=a/\p.s<p.e/\Chain p.e ps b
theorem chain_app {a b:Int}:∀{ps qs:List Pa},Chain a (ps++qs) b↔∃c,Chain a ps c/\Chain c qs b
 | [],qs=>by
  constructor
  .intro h;exact⟨a,rfl,h⟩
  .rintro ⟨c,h1,h2⟩;cases (show a=c from h1);exact h2
 |p::ps,qs=>by
  show (p.s=a/\p.s<p.e/\Chain p.e (ps++qs) b)↔∃c,(p.s=a/\p.s<p.e/\Chain p.e ps c)/\Chain c qs b
  rw[chain_app]
  constructor
  .rintro ⟨h1,h2,c,h3,h4⟩;exact⟨c,⟨h1,h2,h3⟩,h4⟩
  .rintro ⟨c,⟨h1,h2,h3⟩,h4⟩;exact⟨h1,h2,c,h3,h4⟩
theorem chain_le:∀{ps:List Pa} {a b:Int},Chain a ps b->a+ps.length<=b
 | [],a,b,h=>by cases (show a=b from h);simp
 |p::ps,a,b,⟨h1,h2,h3⟩=>by
  have:=chain_le h3
  simp only[List.length_cons]
  lia
theorem chain_mem:∀{ps:List Pa} {a b:Int} {p:Pa},Chain a ps b->p∈ps->a<=p.s/\p.s<p.e/\p.e<=b
 |q :: ps,a,b,p,⟨h1,h2,h3⟩,hp=>by
  rcases List.mem_cons.mp hp with rfl |hp
  .have:=chain_le h3
   exact⟨by lia,h2,by lia⟩
  .have:=chain_mem h3 hp
   exact⟨by lia,this.2.1,this.2.2⟩
theorem chain_same {a b:Int}{xs ys:List Pa}{p p':Pa}(h:Chain a (xs++p::ys) b)(hs:p'.s=p.s)(he:p'.e=p.e):Chain a (xs++p'::ys) b:=by
 rw[chain_app]at h ⊢
 obtain⟨c,h1,h2,h3,h4⟩:=h
 exact⟨c,h1,by rw[hs];exact h2,by rw[hs,he];exact h3,by rw[he];exact h4⟩
theorem chain_split {a b:Int}{xs ys:List Pa}{p p1 p2:Pa}(h:Chain a (xs++p::ys) b)(h1:p1.s=p.s)(h2:p1.e=p2.s)(h3:p2.e=p.e)(h4:p1.s<p1.e)(h5:p2.s<p2.e):Chain a (xs++p1::p2::ys) b:=by
 rw[chain_app]at h ⊢
 obtain⟨c,g1,g2,g3,g4⟩:=h
 exact⟨c,g1,by rw[h1];exact g2,h4,h2.symm,h5,by rw[h3];exact g4⟩
structure Sh0 (m:Int) (k:Nat) (w:Wk):Prop where
 ch:Chain 0 (w.wk++w.ah.reverse) m
 wk:∀p∈w.wk,ShW k p
 ah:∀p∈w.ah,ShA (k+1) p
 sib:∀ah p,w.ah=ah++[p]->Sib ah p
theorem sib_no {ah:List Pa}{p:Pa}(hn:∀z∈ah,z.a≠1)(hp:p.a≠1):∀ah' p',ah++[p]=ah'++[p']->Sib ah' p':=λah' p' e=>by
 obtain⟨rfl,e2⟩:=List.append_inj' e rfl
 cases e2
 exact⟨hn,λz=>absurd z hp⟩
theorem sib_all {ah:List Pa}(hn:∀z∈ah,z.a≠1):∀ah' p',ah=ah'++[p']->Sib ah' p':=λah' p' e=>
 ⟨λz hz=>hn z (by rw[e];simp[hz]),λz=>absurd z (hn p' (by rw[e];simp))⟩
theorem wake_shape {m:Int}{k:Nat}{w:Wk}{q:Pa}(h0:0<=q.s)(h1:q.s<q.e)(hq:q.lo=1-2^(k+1)/\q.hi=2^(k+1)-1)(hc:Chain 0 (w.wk++q::w.ah.reverse) m)(hw:∀p∈w.wk,ShW k p)(ha:∀p∈w.ah,ShA (k+1) p)(hn:∀z∈w.ah,z.a≠1):Sh0 m k (w.wake q):=by
 unfold Wk.wake
 split
 .refine ⟨?_,hw,?_,?_⟩
  .rw [List.reverse_append]
   exact chain_same hc rfl rfl
  .intro p hp
   rcases List.mem_append.mp hp with z |z
   .exact ha p z
   .rw [List.mem_singleton.mp z]
    exact⟨h0,h1,.inr (.inr ⟨rfl,by show q.e=q.s+1;lia,hq.1,hq.2⟩)⟩
  .exact sib_no hn (by show ¬ (2:Int)=1;decide)
 .have hm1:q.s<(q.s+q.e) / 2:=by lia
  have hm2:(q.s+q.e) / 2<q.e:=by lia
  generalize (q.s+q.e) / 2=mid at hm1 hm2
  refine⟨?_,hw,?_,?_⟩
  .rw [List.reverse_append]
   exact chain_split hc rfl rfl rfl hm1 hm2
  .intro p hp
   rcases List.mem_append.mp hp with z |z
   .exact ha p z
   .rcases List.mem_cons.mp z with z |z
    .rw [z];exact⟨by show 0<=mid;lia,hm2,.inr (.inl ⟨.inl rfl,hq.1,hq.2⟩)⟩
    .rw [List.mem_singleton.mp z];exact⟨h0,hm1,.inr (.inl ⟨.inr rfl,hq.1,hq.2⟩)⟩
  .intro ah' p' e
   have e':(w.ah++[⟨0,mid,q.e,q.lo,q.hi⟩])++[⟨1,q.s,mid,q.lo,q.hi⟩]=ah'++[p']:=by rw[List.append_assoc];exact e
   obtain⟨rfl,e2⟩:=List.append_inj' e' rfl
   cases e2
   refine⟨λz hz=>?_,λ_=>⟨w.ah,_,rfl,rfl,rfl,hm2,by show 0<=mid;lia⟩⟩
   rcases List.mem_append.mp hz with y |y
   .exact hn z y
   .rw [List.mem_singleton.mp y];show ¬ (0:Int)=1;decide
theorem step_shape {m:Int}{k:Nat}{w:Wk}{ah:List Pa}{p:Pa}{b:Bool}(S:Sh0 m k w)(hk:w.pl=k)(e:w.ah=ah++[p]):Sh0 m k (w.step ah p b):=by
 have ek:w.pl.toNat=k:=by lia
 have hb:=S.sib ah p e
 have hA:∀z∈ah,ShA (k+1) z:=λz hz=>S.ah z (by rw[e];simp[hz])
 obtain⟨h0,h1,h2⟩:=S.ah p (by rw[e];simp)
 have hc:=S.ch
 rw[e,List.reverse_append]at hc
 have put:∀p':Pa,p'.s=p.s->p'.e=p.e->ShW k p'->Sh0 m k {w with us:=w.us+1,ah:=ah,wk:=w.wk++[p']}:=λp' hs he hw=>by
  refine⟨?_,λz hz=>?_,hA,sib_all hb.no⟩
  .rw [List.append_assoc]
   exact chain_same hc hs he
  .rcases List.mem_append.mp hz with y |y
   .exact S.wk z y
   .rw [List.mem_singleton.mp y];exact hw
 unfold Wk.step
 by_cases c3:p.a=3
 .rw [if_pos c3,ek]
  have hsh:p.e=p.s+1/\ShK (k+1) p.lo p.hi:=by
   rcases h2 with z |z |z
   .exact z.2
   .rcases z.1 with y |y<;>rw[c3]at y<;>cases y
   .rw [c3]at z;cases z.1
  have fa:(p.figured k b).a=3/\(p.figured k b).s=p.s/\(p.figured k b).e=p.e:=by unfold Pa.figured;split<;>exact⟨rfl,rfl,rfl⟩
  exact put _ fa.2.1 fa.2.2 ⟨by rw[fa.2.1];exact h0,by rw[fa.2.1,fa.2.2];exact h1,.inl ⟨fa.1,by rw[fa.2.1,fa.2.2];exact hsh.1,(hsh.2.figured).1⟩⟩
 .rw [if_neg c3]
  by_cases c2:p.a=2
  .rw [if_pos c2,ek]
   have hsh:p.e=p.s+1:=by
    rcases h2 with z |z |z
    .rw [c2]at z;cases z.1
    .rcases z.1 with y |y<;>rw[c2]at y<;>cases y
    .exact z.2.1
   have fa:(p.signed k b).a=3/\(p.signed k b).s=p.s/\(p.signed k b).e=p.e:=by unfold Pa.signed;split<;>exact⟨rfl,rfl,rfl⟩
   exact put _ fa.2.1 fa.2.2 ⟨by rw[fa.2.1];exact h0,by rw[fa.2.1,fa.2.2];exact h1,.inl ⟨fa.1,by rw[fa.2.1,fa.2.2];exact hsh,ShK.signed⟩⟩
  .rw [if_neg c2]
   have hcalm:p.lo=1-2^(k+1)/\p.hi=2^(k+1)-1:=by
    rcases h2 with z |z |z
    .exact absurd z.1 c3
    .exact z.2
    .exact absurd z.1 c2
   split
   .exact wake_shape h0 h1 hcalm hc S.wk hA hb.no
   .have hw:ShW k ⟨0,p.s,p.e,1-2^k,2^k-1⟩:=⟨h0,h1,.inr ⟨rfl,rfl,rfl⟩⟩
    unfold Wk.calm
    by_cases c1:p.a=1
    .rw [if_pos c1]
     obtain⟨r,q,rfl,qa,q2,q3,q0⟩:=hb.sib c1
     have hq:q.lo=1-2^(k+1)/\q.hi=2^(k+1)-1:=by
      rcases (hA q (by simp)).2.2 with z |z |z
      .rw [qa]at z;cases z.1
      .exact z.2
      .rw [qa]at z;cases z.1
     unfold Wk.walked
     rw[List.dropLast_concat,List.getLastD_concat,ek]
     refine wake_shape q0 q3 hq ?_ (λz hz=>?_) (λz hz=>hA z (by simp[hz])) λz hz=>hb.no z (by simp[hz])
     .rw [List.reverse_append]at hc
      rw[List.append_assoc]
      exact chain_same hc rfl rfl
     .rcases List.mem_append.mp hz with y |y
      .exact S.wk z y
      .rw [List.mem_singleton.mp y];exact hw
    .rw [if_neg c1]
     rw[ek]
     exact put _ rfl rfl hw
theorem wk_kinds {m:Int}{k:Nat}{w:Wk}(S:Sh0 m k w):∀p∈w.wk,p.a=0∨p.a=3:=λp hp=>by
 rcases (S.wk p hp).2.2 with z |z
 .exact .inr z.1
 .exact .inl z.1
structure Shp (m:Int) (w:Wk):Prop where
 sh:Sh0 m w.pl.toNat w
 ne:0<=w.pl->w.ah≠[]
 wh:w.pl<0->w.pl = -1/\w.ah=[]
theorem turn_shape {m:Int}{k:Nat}{w:Wk}(hm:0<m)(S:Sh0 m k w)(hk:w.pl=k)(ha:w.ah=[]):Shp m w.turn:=by
 have hc:=S.ch
 rw[ha]at hc
 have hc:Chain 0 (w.wk++[]) m:=hc
 rw[List.append_nil]at hc
 have hne:w.wk≠[]:=λz=>by
  rw[z]at hc
  have:(0:Int)=m:=hc
  lia
 unfold Wk.turn
 split
 .obtain ⟨j,rfl⟩:∃j,k=j+1:=⟨k-1,by lia⟩
  have ej:(w.pl-1).toNat=j:=by lia
  refine⟨?_,λ_=>by simpa using hne,λz=>?_⟩
  .rw [ej]
   refine⟨?_,(λp hp=>by cases hp),λp hp=>?_,?_⟩
   .rw [List.reverse_reverse]
    exact hc
   .have hw:=S.wk p (by simpa using hp)
    refine⟨hw.1,hw.2.1,?_⟩
    rcases hw.2.2 with z |z
    .exact .inl z
    .exact .inr (.inl ⟨.inl z.1,z.2⟩)
   .refine sib_all λz hz=>?_
    rcases wk_kinds S z (by simpa using hz) with y |y<;>rw[y]<;>decide
  .have:w.pl-1<0:=z
   lia
 .have e0:k=0:=by lia
  subst e0
  refine⟨?_,λz=>?_,λ_=>⟨by show w.pl-1 = -1;lia,ha⟩⟩
  .rw [show (w.pl-1).toNat=0 by lia]
   exact⟨S.ch,S.wk,S.ah,S.sib⟩
  .have:0<=w.pl-1:=z
   lia
theorem rowEnd_shape {m:Int}{k:Nat}{w:Wk}(hm:0<m)(S:Sh0 m k w)(hk:w.pl=k):Shp m w.rowEnd:=by
 unfold Wk.rowEnd
 split
 .rename_i c
  exact turn_shape (w:={w with re:=w.re++[w.us]}) hm ⟨S.ch,S.wk,S.ah,S.sib⟩ hk c
 .rename_i c
  refine⟨by rw[show w.pl.toNat=k by lia];exact S,λ_=>c,λz=>by lia⟩
theorem start_shape {m:Int}(hm:0<m)(n:Nat):Shp m (Wk.turn ⟨n,0,[],[⟨0,0,m,1-2^n,2^n-1⟩],[]⟩):=by
 refine turn_shape hm ⟨⟨rfl,hm,rfl⟩,λp hp=>?_,(λp hp=>by cases hp),λah p e=>?_⟩ rfl rfl
 .rw [List.mem_singleton.mp hp]
  exact⟨Int.le_refl 0,hm,.inr ⟨rfl,rfl,rfl⟩⟩
 .have:=congrArg List.length e
  simp at this
theorem step_pl {w:Wk}{ah:List Pa}{p:Pa}{b:Bool}:(w.step ah p b).pl=w.pl/\(w.step ah p b).us=w.us+1/\(w.step ah p b).re=w.re:=by
 unfold Wk.step Wk.calm Wk.wake Wk.walked
 repeat (any_goals split)
 all_goals exact⟨rfl,rfl,rfl⟩
theorem start_comp {xs:List Int}{n:Nat}(h:∀x∈xs,x.natAbs<2^n):CompW xs (Wk.turn ⟨n,0,[],[⟨0,0,xs.length,1-2^n,2^n-1⟩],[]⟩):=by
 refine (turn_iff (w:=⟨n,0,[],[⟨0,0,xs.length,1-2^n,2^n-1⟩],[]⟩) (by show 0<=(n:Int);lia) rfl (λp hp=>by rw[List.mem_singleton.mp hp];exact .inl rfl)).mpr ?_
 unfold CompW
 show Comp xs ((n:Int).toNat) _
 rw[Int.toNat_natCast]
 refine⟨λp hp=>?_,(λp hp=>by cases hp),pair_none λz hz=>by cases hz⟩
 rw[List.mem_singleton.mp hp]
 refine⟨λz=>absurd z (by show ¬ (0:Int)=3;decide),λ_ i a b=>?_⟩
 have hi:i<xs.length:=by
  have:(i:Int)<(xs.length:Int):=b
  lia
 rw[List.getD_eq_getElem?_getD,List.getElem?_eq_getElem hi]
 exact h _ (List.getElem_mem hi)
def phi (p:Pa):Nat:=if p.a=3∨p.a=2 then 1 else 3*(p.e-p.s).toNat-1
def phis (ps:List Pa):Nat:=(ps.map phi).sum
theorem phis_app (ps qs:List Pa):phis (ps++qs)=phis ps+phis qs:=by simp[phis]
theorem phis_one (p:Pa):phis [p]=phi p:=by simp[phis]
theorem phis_rev (ps:List Pa):phis ps.reverse=phis ps:=by
 induction ps with
 |nil=>rfl
 |cons p ps ih=>rw[List.reverse_cons,phis_app,phis_one];simp[phis];lia
theorem phi_pos {p:Pa}(h:p.s<p.e):1<=phi p:=by
 unfold phi
 split<;>lia
theorem phi_le {p:Pa}(h:p.s<p.e):phi p<=3*(p.e-p.s).toNat:=by
 unfold phi
 split<;>lia
theorem phis_chain:∀{ps:List Pa} {a b:Int},Chain a ps b->(phis ps:Int)<=3*(b-a)
 | [],a,b,h=>by cases (show a=b from h);simp[phis]
 |p::ps,a,b,⟨h1,h2,h3⟩=>by
  have ih:=phis_chain h3
  have hp:=phi_le h2
  have e:phis (p::ps)=phi p+phis ps:=by simp[phis]
  lia
theorem wake_phi {w:Wk}{q:Pa}(h1:q.s<q.e)(h3:q.a≠3)(h2:q.a≠2):phis (w.wake q).ah+1<=phis w.ah+phi q:=by
 have hq:phi q=3*(q.e-q.s).toNat-1:=by
  unfold phi
  rw[if_neg (by rintro (z |z);exact h3 z;exact h2 z)]
 unfold Wk.wake
 split
 .dsimp only
  rw[phis_app,phis_one,hq]
  show phis w.ah+1+1<=_
  clear h1;lia
 .rename_i c
  dsimp only
  have hm1:q.s<(q.s+q.e) / 2:=by lia
  have hm2:(q.s+q.e) / 2<q.e:=by lia
  generalize (q.s+q.e) / 2=m at hm1 hm2
  have e:phis [(⟨0,m,q.e,q.lo,q.hi⟩:Pa),⟨1,q.s,m,q.lo,q.hi⟩]=(3*(q.e-m).toNat-1)+(3*(m-q.s).toNat-1):=by
   simp[phis,phi]
  rw[phis_app,e,hq]
  lia
theorem step_phi {m:Int}{k:Nat}{w:Wk}{ah:List Pa}{p:Pa}{b:Bool}(S:Sh0 m k w)(e:w.ah=ah++[p]):phis (w.step ah p b).ah+1<=phis w.ah:=by
 have hb:=S.sib ah p e
 obtain⟨h0,h1,_⟩:=S.ah p (by rw[e];simp)
 have hp:=phi_pos h1
 rw[e,phis_app,phis_one]
 unfold Wk.step
 split
 .show phis ah+1<=_;lia
 .rename_i c3
  split
  .show phis ah+1<=_;lia
  .rename_i c2
   split
   .exact wake_phi (w:={w with us:=w.us+1,ah:=ah}) h1 c3 c2
   .unfold Wk.calm
    split
    .rename_i c1
     obtain⟨r,q,rfl,qa,q2,q3,q0⟩:=hb.sib c1
     rw[List.dropLast_concat,List.getLastD_concat,phis_app,phis_one]
     refine Nat.le_trans (wake_phi q3 (by rw[qa];decide) (by rw[qa];decide)) ?_
     show phis r+phi q<=_
     lia
    .show phis ah+1<=_;lia
def mu (m:Nat)(w:Wk):Nat:=if w.pl<0 then 0 else 3*m*w.pl.toNat+phis w.ah
theorem rowEnd_mu {m k:Nat}{w:Wk}(S:Sh0 m k w)(hk:w.pl=k):mu m w.rowEnd<=3*m*k+phis w.ah:=by
 unfold Wk.rowEnd
 split
 .rename_i c
  unfold Wk.turn
  split
  .rename_i c2
   obtain⟨j,rfl⟩:∃j,k=j+1:=⟨k-1,by have:w.pl-1>=0:=c2;lia⟩
   unfold mu
   dsimp only
   rw[if_neg (by omega),phis_rev,show (w.pl-1).toNat=j by omega]
   have hc:=S.ch
   rw[c]at hc
   have hc:Chain 0 (w.wk++[]) m:=hc
   rw[List.append_nil]at hc
   have:=phis_chain hc
   have e:3*m*(j+1)=3*m*j+3*m:=by rw[Nat.mul_succ]
   lia
  .rename_i c2
   unfold mu
   dsimp only
   rw[if_pos (by have:¬ w.pl-1>=0:=c2;lia)]
   lia
 .unfold mu
  rw[if_neg (by lia),show w.pl.toNat=k by lia]
  exact Nat.le_refl _
inductive Fol:Wk->List Bool->Wk->Prop
 |nil {w:Wk}:Fol w [] w
 |whole {w:Wk} {b:Bool} {bs:List Bool} (h:w.pl<0):Fol w (b::bs) w
 |step {w v:Wk} {ah:List Pa} {p:Pa} {b:Bool} {bs:List Bool} (h:0<=w.pl) (h5:w.pl<=5000) (hf:w.fits) (e:w.ah=ah++[p]) (h1:p.a=1->b=false->ah≠[]) (t:Fol ((w.step ah p b).rowEnd) bs v):Fol w (b::bs) v
def Pa.sp (p:Pa):D:=.tup [.int p.lo,.int p.hi]
def spansOf (w:Wk):List D:=(w.wk++w.ah.reverse).flatMap λp=>List.replicate (p.e-p.s).toNat p.sp
def sp_Walk_follow:DMo:=λts ds P=>∃(w v:Wk) (bs:List Bool),ts=w.ts/\ds=[.str (strOf bs)]/\Fol w bs v/\P v.ts
def sp_Walk_spans:DSp:=λds P=>∃w:Wk,ds=[.obj "Walk" Xa2 (OV.vals w.ts)]/\w.wk.length<400000/\w.ah.length<400000/\(spansOf w).length<=900000/\(∀p∈w.wk++w.ah,0<=p.e-p.s/\p.e-p.s<=100000)/\P (.nl ((spansOf w).map .fz))
def sp_followed:DSp:=λds P=>∃(bs:List Bool) (m:Int) (n:Nat) (v:Wk),ds=[.str (strOf bs),.int m,.int n]/\n<=5000/\Fol (Wk.turn ⟨n,0,[],[⟨0,0,m,1-2^n,2^n-1⟩],[]⟩) bs v/\P (.ob none "Walk" Xa2 v.ts)
abbrev s_Walk_follow:Stmt:=inClass (top 57) 5
theorem sc_Walk_follow:FnScope ["self","bits","bit"] ["self","bits"] (Xac s_Walk_follow):=by walk_at "S"
abbrev s_Walk_spans:Stmt:=inClass (top 57) 4
theorem sc_Walk_spans:FnScope ["self","found","part"] ["self"] (Xac s_Walk_spans):=by walk_at "S"
abbrev s_followed:Stmt:=top 59
theorem sc_followed:FnScope ["bits","many","planes","walk"] ["bits","many","planes"] (Xac s_followed):=by walk_at "S"
theorem ok_Walk_follow {f:Addr}{fd:FuncData}(Df:MetAt K "Walk" "follow" "Walk.follow" s_Walk_follow f fd)(B:BltV mg)(KV:KitV K)(CV_Walk:ClsV K "Walk" Xa2)(c_Walk_is_whole:CalM P w K mg base "Walk" "is_whole" 1 ["self"] (spV K 1 sp_Walk_is_whole))(c_Walk_take:CalM P w K mg base "Walk" "take" 4 ["self","told"] (spM K 2 "Walk" Xa2 sp_Walk_take)):
  CalM P w K mg base "Walk" "follow" 5 ["self","bits"] (spM K 2 "Walk" Xa2 sp_Walk_follow):=by
 refine CalM.of Df sc_Walk_follow (by walk_at "b") rfl (λc A o s H E hr=>⟨_,_,(Xai (ps_for PassesOwn.never rfl (pi_str (pv 1)) (Xa6 (i:=2) sc_Walk_follow.nd rfl (Or.inl rfl)) (Xah (ps_if (pt_val (pe_metN0 c_Walk_is_whole (hr.mono (by decide)) (pv 0))) (Xai ps_break) pss_nil)
   (Xai (ps_expr (pe_metN c_Walk_take (hr.mono (by decide)) (pv 0) (Xaa (pe_cmpR op_eq (pv 2) pe_str (nomark _)) Xae))))))),
  (sS_for (sI_str Xad) sG_name (Xan (sS_if (sT_b (sF_o (sO_methP CV_Walk (by decide +kernel) Xad Xap))) sS_break sS_next)
   (sS_meth CV_Walk (by decide +kernel) (Xab (Xao oS_eq Xad (Xaq sF_str)) Xak)))),?_⟩)
 rintro a ts ds Pr ⟨w,v,bs,rfl,rfl,hF,h⟩
 fin2
 rw[sgns_strOf,List.map_map]
 refine⟨λi δ=>∃(w':Wk) (o:Option Sl),Fol w' (bs.drop i) v/\δ=[some (.own (.ob (some a) "Walk" Xa2 w'.ts)),vD (.str (strOf bs)),o],⟨w,none,hF,rfl⟩,?_,?_⟩
 .rintro i d δ hd ⟨w',o,hF',rfl⟩
  obtain⟨b,hb,rfl⟩:=mget hd
  have hi:=(List.getElem?_eq_some_iff.mp hb).1
  have hdr:bs.drop i=b::bs.drop (i+1):=by
   rw[List.drop_eq_getElem_cons hi]
   rw[List.getElem?_eq_getElem hi]at hb
   rw[Option.some.inj hb]
  rw[hdr]at hF'
  simp only[gN,Function.comp,List.set_cons_succ,List.set_cons_zero]
  gn_on
  refine⟨w',by rw[OV.vals_eq],?_⟩
  fin2
  cases hF' with
  |whole hl=>
   rw[if_pos hl]
   exact h
  | @step _ _ ah p _ _ h0 h5 hf e h1 t=>
   rw[if_neg (by lia)]
   gp_on
   fin2
   refine⟨w',ah,p,b,rfl,hf,by rw[bitS_one],e,h0,h5,h1,?_⟩
   exact⟨_,_,t,rfl⟩
 .rintro δ ⟨w',o,hF',rfl⟩
  rw[List.length_map,List.drop_length]at hF'
  cases hF'
  exact⟨_,rfl,h⟩
theorem ok_Walk_spans {f:Addr}{fd:FuncData}(Df:MetAt K "Walk" "spans" "Walk.spans" s_Walk_spans f fd)(B:BltV mg)(KV:KitV K)(CV_Walk:ClsV K "Walk" Xa2)(g_SPAN:∃t,mg "SPAN"=some (.int 3 t))(g_END:∃t,mg "END"=some (.int 2 t))(g_START:∃t,mg "START"=some (.int 1 t)):
  CalM P w K mg base "Walk" "spans" 1 ["self"] (spV K 1 sp_Walk_spans):=by
 refine CalP.of Df sc_Walk_spans (by walk_at "b") rfl (λc A o s H E hr=>⟨_,_,(Xah (ps_set (i:=1) sc_Walk_spans.nd rfl (Or.inl rfl) (pe_lstS Xae))
   (Xah (ps_for PassesOwn.never rfl (pi_list (Xay op_catS (pe_fld (pv 0) rfl) (pe_listRev rfl B.list rfl B.reversed (Xaa (pe_fld (pv 0) rfl) Xae)))) (Xa6 (i:=2) sc_Walk_spans.nd rfl (Or.inl rfl)) (Xai (ps_expr (pe_bm PySem.F.plainAttrs_list PySem.F.slot_list_extend PySem.F.type_list_extend mt_extendS (pv 1) (Xaa (Xay op_rep (pe_lstS (Xaa (Xaz Xau (pv 2) (Xam (by rfl) g_SPAN) (λ_ _=>rfl)) Xae)) (Xay op_sub (Xaz Xau (pv 2) (Xam (by rfl) g_END) (λ_ _=>rfl)) (Xaz Xau (pv 2) (Xam (by rfl) g_START) (λ_ _=>rfl)))) Xae)))))
   (Xai (Xas (pv 1))))),
  (Xan (sS_set (sO_lst sAO_nil))
   (Xan (sS_for (sI_list (sF_o (sO_catB (sB_fld (j:=3) CV_Walk (by rfl) Xad) (Xaq (sF_o (sO_listRev (Xaj (sB_fld (j:=4) CV_Walk (by rfl) Xad) Xap))))))) sG_name (sS_ext (sF_o (sO_rep1 (sO_lst (sAO_cons (sO_f (sF_opF Xat Xaf Xag)) sAO_nil)) (Xaq (Xao oS_i0 (sB_op (OpF.b Xat) Xad (Xaq Xag)) (sB_op (OpF.b Xat) Xad (Xaq Xag))))))))
   sS_retV)),?_⟩)
 rintro ds Pr ⟨w,rfl,h1,h2,h3,h4,h⟩
 unfold Wk.ts
 gn_on
 gp_on
 gn_on
 rw[pa_vals,pa_vals]
 have vf:∀l:List D,List.map OV.val (List.map OV.fz l)=l:=λl=>by
  rw[List.map_map]
  exact List.map_id l
 simp only[vf]
 rw[<- List.map_reverse,<- List.map_append]
 refine⟨pa_lfs _,by lia,pa_lfs _,pa_lfs _,by simp;lia,?_⟩
 have h4':∀p∈w.wk++w.ah.reverse,0<=p.e-p.s/\p.e-p.s<=100000:=λp hp=>h4 p (by simpa using hp)
 unfold spansOf at h h3
 generalize w.wk++w.ah.reverse=ps at h h3 h4'
 refine⟨λi δ=>∃(o:Option Sl),δ=[some (Sl.own (OV.fz (D.obj (Str.ofString "Walk") Xa2 [D.int w.pl,D.int w.us,D.lst (List.map D.int w.re),D.lst (List.map Pa.d w.wk),D.lst (List.map Pa.d w.ah)]))),some (Sl.own (OV.nl (((ps.take i).flatMap λp=>List.replicate (p.e-p.s).toNat p.sp).map .fz))),o],⟨none,rfl⟩,?_,?_⟩
 .rintro i d δ hd ⟨o,rfl⟩
  obtain⟨p,hp,rfl⟩:=mget hd
  have hi:=(List.getElem?_eq_some_iff.mp hp).1
  rw[pa_eta]
  simp only[gN,List.set_cons_succ,List.set_cons_zero]
  fin2
  have hb:=h4' p (List.mem_of_getElem? hp)
  have hle:((ps.take i).flatMap λp=>List.replicate (p.e-p.s).toNat p.sp).length<=900000:=by
   refine Nat.le_trans ?_ h3
   rw[<- List.take_append_drop i ps,List.flatMap_append,List.length_append]
   simp
  refine⟨⟨hb.1,by lia⟩,by rw[List.length_replicate];(clear h1 h2;lia),some (Sl.own (OV.fz (D.tup [D.int p.a,D.int p.s,D.int p.e,D.tup [D.int p.lo,D.int p.hi]]))),?_⟩
  have ht:ps.take (i+1)=ps.take i++[p]:=by rw[List.take_add_one,hp];rfl
  rw[ht,List.flatMap_append,List.map_append,List.map_replicate]
  simp only[List.flatMap_cons,List.flatMap_nil,List.append_nil,List.map_replicate]
  rfl
 .rintro δ ⟨o,rfl⟩
  gp_on
  fin2
  rw[List.take_length]
  exact h
theorem ok_followed {f:Addr}{fd:FuncData}(Df:DefAt K mg "followed" s_followed f fd)(B:BltV mg)(KV:KitV K)(CV_Walk:ClsV K "Walk" Xa2)(c_Walk___init__:CalK P w K mg base "Walk" 2 ["self","many","planes"] (spM K 3 "Walk" Xa2 sp_Walk___init__))(c_Walk_follow:CalM P w K mg base "Walk" "follow" 5 ["self","bits"] (spM K 2 "Walk" Xa2 sp_Walk_follow)):
  Cal P w K mg base "followed" 6 ["bits","many","planes"] (spV K 3 sp_followed):=by
 refine CalV.of Df sc_followed (by walk_at "b") rfl (λc A o s H E hr=>⟨_,_,(Xah (ps_set (i:=3) sc_followed.nd rfl (Or.inl rfl) (pe_makN c_Walk___init__ (hr.mono (by decide)) (by rfl) (Xaa (pv 1) (Xaa (pv 2) Xae))))
   (Xah (ps_expr (pe_metN c_Walk_follow (hr.mono (by decide)) (pv 3) (Xaa (pv 0) Xae)))
   (Xai (Xas (pv 3))))),
  (Xan (sS_set (sO_make CV_Walk (Xab Xaf (Xab Xaf Xak))))
   (Xan (sS_meth CV_Walk (by decide +kernel) (Xab Xaf Xak))
   sS_retV)),?_⟩)
 rintro ds Pr ⟨bs,m,n,v,rfl,hn,hF,h⟩
 gn_on
 refine⟨m,n,rfl,rfl,hn,?_⟩
 gp_on
 gn_on
 refine⟨_,v,bs,rfl,rfl,hF,?_⟩
 gp_on
 fin2
 exact h
theorem rowEnd_us {w:Wk}:w.rowEnd.us=w.us/\w.rowEnd.re.length<=w.re.length+1/\w.rowEnd.pl<=w.pl/\(w.rowEnd.re.length:Int)+w.rowEnd.pl<=w.re.length+w.pl:=by
 unfold Wk.rowEnd
 split
 .unfold Wk.turn
  split
  .refine ⟨rfl,by simp,by show w.pl-1<=w.pl;lia,?_⟩
   show (((w.re++[w.us]).length:Nat):Int)+(w.pl-1)<=_
   rw[List.length_append,List.length_singleton];lia
  .refine ⟨rfl,by simp,by show w.pl-1<=w.pl;lia,?_⟩
   show (((w.re++[w.us]).length:Nat):Int)+(w.pl-1)<=_
   rw[List.length_append,List.length_singleton];lia
 .exact ⟨rfl,by lia,Int.le_refl _,Int.le_refl _⟩
theorem shp_fits {m:Nat}{w:Wk}(S:Shp m w)(hm:m<400000)(hr:w.re.length<900000):w.fits:=by
 have:=chain_le S.sh.ch
 rw[List.length_append,List.length_reverse]at this
 exact⟨hr,by lia,by lia⟩
theorem tell_run {xs:List Int}{m:Nat}(hx:xs.length=m)(hm0:0<m)(hm:m<400000):∀(N:Nat) (w:Wk),mu m w<=N->Shp m w->CompW xs w->w.pl<=5000->(w.re.length:Int)+w.pl<800000->
  ∃bs v,Tell xs w bs/\Fol w bs v/\v.pl<0/\Shp m v/\CompW xs v/\bs.length<=mu m w/\v.us=w.us+bs.length:=by
 intro N
 induction N with
 |zero=>
  intro w hN S C h5 hr
  by_cases hp:w.pl<0
  .exact ⟨[],w,.done hp,.nil,hp,S,C,Nat.zero_le _,by simp⟩
  .obtain ⟨ah,p,e⟩:∃ah p,w.ah=ah++[p]:=⟨_,_,(List.dropLast_concat_getLast (S.ne (by lia))).symm⟩
   have:=step_phi (b:=true) S.sh e
   unfold mu at hN
   rw[if_neg hp]at hN
   lia
 |succ N ih=>
  intro w hN S C h5 hr
  by_cases hp:w.pl<0
  .exact ⟨[],w,.done hp,.nil,hp,S,C,Nat.zero_le _,by simp⟩
  .obtain ⟨k,hk⟩:∃k:Nat,w.pl=k:=⟨w.pl.toNat,by lia⟩
   have ek:w.pl.toNat=k:=by lia
   obtain⟨ah,p,e⟩:∃ah p,w.ah=ah++[p]:=⟨_,_,(List.dropLast_concat_getLast (S.ne (by lia))).symm⟩
   have S0:Sh0 m k w:=ek▸S.sh
   have hA:=S0.ah p (by rw[e];simp)
   have hmem:=chain_mem (p:=p) S0.ch (by rw[e];simp)
   have hB:=S0.sib ah p e
   have S1:=step_shape (b:=ansB xs (k:Int) p) S0 hk e
   obtain⟨q1,q2,q3⟩:=step_pl (b:=ansB xs (k:Int) p)
   have hk1:(w.step ah p (ansB xs (k:Int) p)).pl=k:=by rw[q1];exact hk
   have S2:=rowEnd_shape (by lia) S1 hk1
   have C1:Comp xs k (w.step ah p (ansB xs (k:Int) p)):=(step_iff hk e hA hB (by rw[hx];exact hmem.2.2)).mpr ⟨by unfold CompW at C;rw[ek]at C;exact C,rfl⟩
   have C2:CompW xs (w.step ah p (ansB xs (k:Int) p)).rowEnd:=(rowEnd_iff (by rw[hk1];lia) (wk_kinds S1)).mpr (by unfold CompW;rw[hk1];exact C1)
   obtain⟨r1,r2,r3,r4⟩:=rowEnd_us (w:=w.step ah p (ansB xs (k:Int) p))
   have hmu:=rowEnd_mu S1 hk1
   have hphi:=step_phi (b:=ansB xs (k:Int) p) S0 e
   have hw:mu m w=3*m*k+phis w.ah:=by unfold mu;rw[if_neg hp,ek]
   rw[ q3]at r4
   obtain⟨bs,v,t1,t2,t3,t4,t5,t6,t7⟩:=ih _ (by lia) S2 C2 (by (clear hx hm0 hm hN hmem r2 hmu hw;lia)) (by (clear hx hm0 hm hN hmem hmu hw;lia))
   have hf:=shp_fits S hm (by (clear hx hm0 hm hN hmem hmu hw t3 t6 t7;lia))
   have hone:p.a=1->ansB xs (k:Int) p=false->ah≠[]:=λz _=>by
    obtain⟨r,q,er,_⟩:=hB.sib z
    rw[er];simp
   refine⟨ansB xs (k:Int) p::bs,v,?_,?_,t3,t4,t5,?_,?_⟩
   .have:=Tell.step (by (clear hx hm0 hm hN hmem hmu hw t3 t6 t7;lia)) h5 hf e ⟨hmem.1,hmem.2.1,by rw[hx];exact hmem.2.2⟩ (by rw[hk];exact hone) (by rw[hk];exact t1)
    rw[hk]at this
    exact this
   .exact Fol.step (by (clear hx hm0 hm hN hmem hmu hw t3 t6 t7;lia)) h5 hf e hone t2
   .rw [List.length_cons];(clear hN t3 t7;lia)
   .rw [t7,r1,List.length_cons];lia
theorem chain_len:∀{ps:List Pa} {a b:Int},Chain a ps b->(ps.flatMap λp=>List.replicate (p.e-p.s).toNat p.sp).length=(b-a).toNat
 | [],a,b,h=>by cases (show a=b from h);simp
 |p::ps,a,b,⟨h1,h2,h3⟩=>by
  have hle:=chain_le h3
  rw[List.flatMap_cons,List.length_append,chain_len h3,List.length_replicate]
  lia
theorem shp_small {m:Nat}{w:Wk}(S:Shp m w)(hm:m<=100000):w.wk.length<400000/\w.ah.length<400000/\(spansOf w).length=m/\∀p∈w.wk++w.ah,0<=p.e-p.s/\p.e-p.s<=100000:=by
 have h1:=chain_le S.sh.ch
 rw[List.length_append,List.length_reverse]at h1
 refine⟨by lia,by lia,by unfold spansOf;rw[chain_len S.sh.ch];lia,λp hp=>?_⟩
 have:=chain_mem S.sh.ch (by simpa using hp)
 lia
theorem start_facts (m n:Nat):(Wk.turn ⟨n,0,[],[⟨0,0,m,1-2^n,2^n-1⟩],[]⟩).pl=n-1/\(Wk.turn ⟨n,0,[],[⟨0,0,m,1-2^n,2^n-1⟩],[]⟩).re=[]/\(Wk.turn ⟨n,0,[],[⟨0,0,m,1-2^n,2^n-1⟩],[]⟩).us=0/\mu m (Wk.turn ⟨n,0,[],[⟨0,0,m,1-2^n,2^n-1⟩],[]⟩)<=3*m*n:=by
 unfold Wk.turn
 split
 .rename_i c
  refine⟨rfl,rfl,rfl,?_⟩
  have c:(n:Int)-1>=0:=c
  obtain⟨k,rfl⟩:∃k,n=k+1:=⟨n-1,by lia⟩
  unfold mu
  rw[if_neg (by show ¬ ((k+1:Nat):Int)-1<0;lia)]
  show 3*m*(((k+1:Nat):Int)-1).toNat+phis [_]<=_
  rw[phis_one,show (((k+1:Nat):Int)-1).toNat=k by lia]
  unfold phi
  show 3*m*k+(3*((m:Int)-0).toNat-1)<=3*m*(k+1)
  rw[Nat.mul_add]
  lia
 .rename_i c
  have c:¬ (n:Int)-1>=0:=c
  refine⟨rfl,rfl,rfl,?_⟩
  unfold mu
  rw[if_pos (by show (n:Int)-1<0;lia)]
  exact Nat.zero_le _
theorem fol_trans {w v u:Wk}{as bs:List Bool}(h:Fol w as v)(h2:Fol v bs u):Fol w (as++bs) u:=by
 induction h with
 |nil=>exact h2
 |whole h=>
  cases h2 with
  |nil=>exact .whole h
  |whole _=>exact .whole h
  |step h0=>lia
 |step h h5 hf e h1 t ih=>exact .step h h5 hf e h1 (ih h2)
theorem fol_run {m:Nat}(hm0:0<m)(hm:m<400000):∀(bs:List Bool) (w:Wk),Shp m w->w.pl<=5000->(w.re.length:Int)+w.pl<800000->
  ∃(v:Wk) (u:Nat),Fol w bs v/\Shp m v/\u<=bs.length/\v.us=w.us+u/\mu m v+u<=mu m w/\(0<=v.pl->u=bs.length)/\(0<=w.pl->v.pl<0->1<=u)/\v.pl<=w.pl/\(v.re.length:Int)+v.pl<=w.re.length+w.pl/\
   ∀xs:List Int,xs.length=m->CompW xs v->CompW xs w/\∀ts,Tell xs v ts->Tell xs w (bs.take u++ts)
 | [],w,S,h5,hr=>⟨w,0,.nil,S,Nat.le_refl _,by simp,by lia,(λ_=>rfl),(λa b=>by lia),Int.le_refl _,Int.le_refl _,λxs hx C=>⟨C,λts t=>t⟩⟩
 |b :: bs,w,S,h5,hr=>by
  by_cases hp:w.pl<0
  .exact ⟨w,0,.whole hp,S,Nat.zero_le _,by simp,by lia,(λz=>by lia),(λa _=>by lia),Int.le_refl _,Int.le_refl _,λxs hx C=>⟨C,λts t=>t⟩⟩
  .obtain ⟨k,hk⟩:∃k:Nat,w.pl=k:=⟨w.pl.toNat,by lia⟩
   have ek:w.pl.toNat=k:=by lia
   obtain⟨ah,p,e⟩:∃ah p,w.ah=ah++[p]:=⟨_,_,(List.dropLast_concat_getLast (S.ne (by lia))).symm⟩
   have S0:Sh0 m k w:=ek▸S.sh
   have hA:=S0.ah p (by rw[e];simp)
   have hmem:=chain_mem (p:=p) S0.ch (by rw[e];simp)
   have hB:=S0.sib ah p e
   have S1:=step_shape (b:=b) S0 hk e
   obtain⟨q1,q2,q3⟩:=step_pl (w:=w) (ah:=ah) (p:=p) (b:=b)
   have hk1:(w.step ah p b).pl=k:=by rw[q1];exact hk
   have S2:=rowEnd_shape (by lia) S1 hk1
   obtain⟨r1,r2,r3,r4⟩:=rowEnd_us (w:=w.step ah p b)
   have hmu:=rowEnd_mu S1 hk1
   have hphi:=step_phi (b:=b) S0 e
   have hw:mu m w=3*m*k+phis w.ah:=by unfold mu;rw[if_neg hp,ek]
   rw[q1]at r3
   rw[q1,q3]at r4
   obtain⟨v,u,t1,t2,t3,t4,t5,t6,t7,t8,t9,t10⟩:=fol_run hm0 hm bs _ S2 (by (clear hm0 hm hmem r2 hmu hw;lia)) (by lia)
   have hf:=shp_fits S hm (by lia)
   have hone:p.a=1->b=false->ah≠[]:=λz _=>by
    obtain⟨r,q,er,_⟩:=hB.sib z
    rw[er];simp
   refine⟨v,u+1,.step (by lia) h5 hf e hone t1,t2,by rw[List.length_cons];lia,by rw[t4,r1,q2];lia,by lia,(λz=>by rw[List.length_cons,t6 z]),(λ_ _=>by lia),by (clear hm0 hm hmem hmu hw t3 t4 t5;lia),by (clear hm0 hm hmem hmu hw t3 t4 t5;lia),λxs hx C=>?_⟩
   obtain⟨c1,c2⟩:=t10 xs hx C
   have C1:Comp xs k (w.step ah p b):=by
    have:=(rowEnd_iff (by rw[hk1];lia) (wk_kinds S1)).mp c1
    unfold CompW at this
    rw[hk1,Int.toNat_natCast]at this
    exact this
   obtain⟨C0,hb⟩:=(step_iff hk e hA hB (by rw[hx];exact hmem.2.2)).mp C1
   refine⟨by unfold CompW;rw[ek];exact C0,λts t=>?_⟩
   have:=c2 ts t
   rw[List.take_succ_cons,List.cons_append]
   rw[hb]at this hone ⊢
   have T:=Tell.step (xs:=xs) (w:=w) (ah:=ah) (p:=p) (bs:=bs.take u++ts) (by lia) h5 hf e ⟨hmem.1,hmem.2.1,by rw[hx];exact hmem.2.2⟩ (by rw[hk];exact hone) (by rw[hk];exact this)
   rw[hk]at T
   exact T
theorem chain_at {α:Type}(f:Pa->α):∀{ps:List Pa} {a b:Int} {p:Pa} {i:Int},Chain a ps b->p∈ps->p.s<=i->i<p.e->(ps.flatMap λp=>List.replicate (p.e-p.s).toNat (f p))[(i-a).toNat]?=some (f p)
 |q :: ps,a,b,p,i,⟨h1,h2,h3⟩,hp,hi1,hi2=>by
  rw[List.flatMap_cons]
  rcases List.mem_cons.mp hp with rfl |hp'
  .rw [List.getElem?_append_left (by rw[List.length_replicate];lia),List.getElem?_replicate,if_pos (by lia)]
  .have:=(chain_mem h3 hp').1
   rw[List.getElem?_append_right (by rw[List.length_replicate];lia),List.length_replicate]
   have:=chain_at f h3 hp' hi1 hi2
   rw[show (i-a).toNat-(q.e-q.s).toNat=(i-q.e).toNat by lia]
   exact this
theorem chain_cover:∀{ps:List Pa} {a b i:Int},Chain a ps b->a<=i->i<b->∃p∈ps,p.s<=i/\i<p.e
 | [],a,b,i,h,h1,h2=>by cases (show a=b from h);omega
 |q :: ps,a,b,i,⟨h1,h2,h3⟩,hi1,hi2=>by
  by_cases h:i<q.e
  .exact ⟨q,by simp,by lia,h⟩
  .obtain ⟨p,hp,h4⟩:=chain_cover h3 (show q.e<=i by lia) hi2
   exact⟨p,by simp[hp],h4⟩
theorem part_at {m:Nat}{w:Wk}(S:Shp m w){i:Nat}(hi:i<m):∃p∈w.wk++w.ah,p.s<=i/\(i:Int)<p.e/\(spansOf w)[i]?=some p.sp:=by
 obtain⟨p,hp,h1,h2⟩:=chain_cover S.sh.ch (show (0:Int)<=i by lia) (by lia)
 refine⟨p,by simpa using hp,h1,h2,?_⟩
 have:=chain_at Pa.sp S.sh.ch hp h1 h2
 exact this
theorem start_low {xs:List Int}{n:Nat}(h:CompW xs (Wk.turn ⟨n,0,[],[⟨0,0,xs.length,1-2^n,2^n-1⟩],[]⟩)):∀x∈xs,x.natAbs<2^n:=by
 have:=(turn_iff (w:=⟨n,0,[],[⟨0,0,xs.length,1-2^n,2^n-1⟩],[]⟩) (by show 0<=(n:Int);lia) rfl (λp hp=>by rw[List.mem_singleton.mp hp];exact .inl rfl)).mp h
 unfold CompW at this
 have:=(this.1 _ (List.mem_singleton.mpr rfl)).2 rfl
 intro x hx
 obtain⟨i,hi⟩:=List.mem_iff_getElem?.mp hx
 have hil:=(List.getElem?_eq_some_iff.mp hi).1
 have:=this i (by show (0:Int)<=i;lia) (by show (i:Int)<xs.length;lia)
 rw[List.getD_eq_getElem?_getD,hi]at this
 have h2:x.natAbs<2^(n:Int).toNat:=this
 rw[Int.toNat_natCast]at h2
 exact h2
def spansQ (w:Wk):List (Int×Int):=(w.wk++w.ah.reverse).flatMap λp=>List.replicate (p.e-p.s).toNat (p.lo,p.hi)
theorem spansQ_len {m:Nat}{w:Wk}(S:Shp m w):(spansQ w).length=m:=by
 have:∀{ps:List Pa} {a b:Int},Chain a ps b->(ps.flatMap λp=>List.replicate (p.e-p.s).toNat (p.lo,p.hi)).length=(b-a).toNat:=by
  intro ps
  induction ps with
  |nil=>intro a b h;cases (show a=b from h);simp
  |cons p ps ih=>
   rintro a b ⟨h1,h2,h3⟩
   have hle:=chain_le h3
   rw[List.flatMap_cons,List.length_append,ih h3,List.length_replicate]
   lia
 unfold spansQ
 rw[this S.sh.ch]
 lia
def near (p:Pa):Int:=if p.lo > 0 then p.lo else p.hi
theorem fol_det {w v v':Wk}{bs:List Bool}(h:Fol w bs v)(h2:Fol w bs v'):v=v':=by
 induction h with
 |nil=>cases h2;rfl
 |whole h=>
  cases h2 with
  |whole _=>rfl
  |step h0=>lia
 |step h h5 hf e h1 t ih=>
  cases h2 with
  |whole h0=>lia
  |step _ _ _ e' _ t'=>
   rw[e]at e'
   obtain⟨rfl,e2⟩:=List.append_inj' e' rfl
   cases e2
   exact ih t'
def known (x:Int)(k:Nat):Int×Int:=
 if (x.natAbs:Int) / 2^k*2^k=0 then (1-2^k,2^k-1) else if x<0 then (1-(x.natAbs:Int) / 2^k*2^k-2^k,0-(x.natAbs:Int) / 2^k*2^k) else ((x.natAbs:Int) / 2^k*2^k,(x.natAbs:Int) / 2^k*2^k+2^k-1)
theorem cut_any {m:Nat}(hm0:0<m)(hm:m<400000){w v:Wk}{bs:List Bool}(F:Fol w bs v)(S:Shp m w)(h5:w.pl<=5000)(hr:(w.re.length:Int)+w.pl<800000)(h0:w.us=0){c:Nat}(hc:c<=bs.length):
  ∃u,Fol w (bs.take c) u/\Shp m u/\Fol u (bs.drop c) v/\Shp m v/\u.us=min (c:Int) v.us/\decide (u.pl<0)=(decide (v.pl<0) && decide (v.us<=(c:Int)))/\u.pl<=w.pl/\(u.re.length:Int)+u.pl<=w.re.length+w.pl:=by
 obtain⟨u,k,a1,a2,a3,a4,a5,a6,a7,a8,a9,a10⟩:=fol_run hm0 hm (bs.take c) w S h5 hr
 obtain⟨v2,k2,b1,b2,b3,b4,b5,b6,b7,b8,b9,b10⟩:=fol_run hm0 hm (bs.drop c) u a2 (by lia) (by lia)
 have F2:=fol_trans a1 b1
 rw[List.take_append_drop]at F2
 have e:=fol_det F F2
 subst e
 rw[List.length_take,Nat.min_eq_left hc]at a3 a6
 have hk2:u.pl<0->k2=0:=λz=>by
  have:mu m u=0:=by unfold mu;rw[if_pos z]
  lia
 refine⟨u,a1,a2,b1,b2,?_,?_,a8,a9⟩
 .by_cases z:u.pl<0
  .have:=hk2 z;(clear hm0 hm hc a5 b3 b5;lia)
  .have:=a6 (by lia);(clear hm0 hm hc a5 b3 b5;lia)
 .rw [<- Bool.decide_and]
  refine decide_eq_decide.mpr ⟨λz=>?_,λz=>?_⟩
  .have:=hk2 z
   exact⟨by (clear hm0 hm hc a3 a4 a5 b3 b4 b5 b9 this;lia),by (clear hm0 hm hc a5 b3 b5;lia)⟩
  .by_cases y:u.pl<0
   .exact y
   .have:=a6 (by omega)
    have:=b7 (by omega) z.1
    clear hm0 hm hc a5 b3 b5;lia
abbrev s_planes_of:Stmt:=top 62
theorem sc_planes_of:FnScope ["some"] ["some"] (Xac s_planes_of):=by walk_at "S"
def sp_planes_of:DSp:=λds P=>∃xs:List Int,ds=[.lst (xs.map .int)]/\0<xs.length/\xs.length<=1000000/\∀M:Nat,(∃x∈xs,ibN x=M)->(∀x∈xs,ibN x<=M)->P (.fz (.int M))
theorem ok_planes_of {f:Addr}{fd:FuncData}(Df:DefAt K mg "planes_of" s_planes_of f fd)(B:BltV mg)(KV:KitV K)(c_heights_of:Cal P w K mg base "heights_of" 1 ["some"] (spV K 1 sp_heights_of)):
  Cal P w K mg base "planes_of" 2 ["some"] (spV K 1 sp_planes_of):=by
 refine CalV.of Df sc_planes_of (by walk_at "b") rfl (λc A o s H E hr=>⟨_,_,(Xai (Xas (Xaw (call_maxL rfl) (by rfl) B.max boot_max (Xaa (Xav c_heights_of (hr.mono (by decide)) (by rfl) (Xaa (pv 0) Xae)) Xae)))),
  (Xa1 (sO_f (sF_cb cS_maxL (Xaj (Xaq (sF_o (Xar (Xab Xaf Xak)))) Xap)))),?_⟩)
 rintro ds Pr ⟨xs,rfl,x0,hx,k⟩
 fin2
 refine⟨xs,rfl,hx,?_⟩
 fin2
 refine⟨xs.map λx=>(ibN x:Int),by simp only[List.map_map,Function.comp_def,OV.val],by simpa using x0,λM hM hA=>?_⟩
 obtain⟨x,hm,rfl⟩:=List.mem_map.mp hM
 refine k (ibN x) ⟨x,hm,rfl⟩ λy hy=>?_
 have:=hA (ibN y) (List.mem_map.mpr ⟨y,hy,rfl⟩)
 lia
def nbL (t m s:Int):Int:=if t-s<0 then t+s else t-s
def nbR (t m s:Int):Int:=if m<=t+s then t-s else t+s
abbrev s_neighbours:Stmt:=top 27
theorem sc_neighbours:FnScope ["at","many","stride","left","right"] ["at","many","stride"] (Xac s_neighbours):=by walk_at "S"
def sp_neighbours:DSp:=λds P=>match ds with
 | [.int t,.int m,.int s]=>if t-s<0/\m<=t+s then P (.fz .non) else P (.fz (.tup [.int (nbL t m s),.int (nbR t m s)]))
 |_=>False
theorem ok_neighbours {f:Addr}{fd:FuncData}(Df:DefAt K mg "neighbours" s_neighbours f fd)(B:BltV mg)(KV:KitV K):
  Cal P w K mg base "neighbours" 1 ["at","many","stride"] (spV K 3 sp_neighbours):=by
 refine CalV.of Df sc_neighbours (by walk_at "b") rfl (λc A o s H E hr=>⟨_,_,(Xah (ps_set (i:=3) sc_neighbours.nd rfl (Or.inl rfl) (Xay op_sub (pv 0) (pv 2)))
   (Xah (ps_set (i:=4) sc_neighbours.nd rfl (Or.inl rfl) (Xay op_add (pv 0) (pv 2)))
   (Xah (ps_if (pw_and (pt_cmpR op_lt (pv 3) Xal (nomark _)) (pw_and1 (pt_cmpR op_ge (pv 4) (pv 1) (nomark _)))).pt (Xai (Xas pe_non)) pss_nil)
   (Xah (ps_if (pt_cmpR op_lt (pv 3) Xal (nomark _)) (Xai (Xas (pe_tupS (Xaa (pv 4) (Xaa (pv 4) Xae))))) pss_nil)
   (Xah (ps_if (pt_cmpR op_ge (pv 4) (pv 1) (nomark _)) (Xai (Xas (pe_tupS (Xaa (pv 3) (Xaa (pv 3) Xae))))) pss_nil)
   (Xai (Xas (pe_tupS (Xaa (pv 3) (Xaa (pv 4) Xae)))))))))),
  (Xan (sS_set (sO_f (Xao oS_i0 Xad Xad)))
   (Xan (sS_set (sO_f (Xao oS_i0 Xad Xad)))
   (Xan (sS_if (sT_and (sT_test (Xao oS_b0 Xad (Xaq Xag))) (sT_test (Xao oS_b0 Xad Xad))) (Xa1 (sO_f sF_non)) sS_next)
   (Xan (sS_if (sT_test (Xao oS_b0 Xad (Xaq Xag))) (Xa1 (sO_f (sF_tup (Xab Xaf (Xab Xaf Xak))))) sS_next)
   (Xan (sS_if (sT_test (Xao oS_b0 Xad Xad)) (Xa1 (sO_f (sF_tup (Xab Xaf (Xab Xaf Xak))))) sS_next)
   (Xa1 (sO_f (sF_tup (Xab Xaf (Xab Xaf Xak)))))))))),?_⟩)
 intro ds Pr h
 unfold sp_neighbours at h
 split at h
 .rename_i t m s'
  fin2
  unfold nbL nbR at h
  by_cases h1:t-s'<0<;>by_cases h2:m<=t+s'<;>simpa[h1,h2] using h
 .exact h.elim
theorem getD_set (xs:List Int)(t p:Nat)(v:Int)(h:t<xs.length):(xs.set t v).getD p 0=if p=t then v else xs.getD p 0:=by
 rw[List.getD_eq_getElem?_getD,List.getD_eq_getElem?_getD,List.getElem?_set]
 by_cases e:p=t
 .subst e
  rw[if_pos rfl,if_pos rfl,if_pos h];rfl
 .rw [if_neg (λz=>e z.symm),if_neg e]
theorem foldl_at {F:Nat->List Int->Int}(S:Nat->Prop)(n:Nat)(hF:∀t xs ys,xs.length=n->ys.length=n->S t->t<n->(∀p,p=t∨¬ S p->xs.getD p 0=ys.getD p 0)->F t xs=F t ys):
  ∀(ts:List Nat) (xs:List Int),xs.length=n->ts.Nodup->(∀t∈ts,S t/\t<n)->
   (ts.foldl (λxs t=>xs.set t (F t xs)) xs).length=n/\∀p,(ts.foldl (λxs t=>xs.set t (F t xs)) xs).getD p 0=if p∈ts then F p xs else xs.getD p 0
 | [],xs,hl,_,_=>⟨hl,λp=>by simp⟩
 |t :: ts,xs,hl,nd,hs=>by
  obtain⟨n1,n2⟩:=List.nodup_cons.mp nd
  obtain⟨st,lt⟩:=hs t List.mem_cons_self
  obtain⟨e1,e2⟩:=foldl_at S n hF ts (xs.set t (F t xs)) (by rw[List.length_set];exact hl) n2 λu hu=>hs u (List.mem_cons_of_mem _ hu)
  refine⟨e1,λp=>?_⟩
  rw[List.foldl_cons,e2 p]
  by_cases hp:p∈ts
  .rw [if_pos hp,if_pos (List.mem_cons_of_mem _ hp)]
   obtain⟨sp,lp⟩:=hs p (List.mem_cons_of_mem _ hp)
   refine hF p _ _ (by rw[List.length_set];exact hl) hl sp lp λq hq=>?_
   rw[getD_set _ _ _ _ (by lia),if_neg]
   rintro rfl
   rcases hq with rfl |hq
   .exact n1 hp
   .exact hq st
  .rw [if_neg hp,getD_set _ _ _ _ (by lia)]
   by_cases e:p=t
   .subst e;rw[if_pos rfl,if_pos List.mem_cons_self]
   .rw [if_neg e,if_neg]
    intro z
    rcases List.mem_cons.mp z with z |z
    .exact e z
    .exact hp z
structure Lf where
 h:Int
 l:Int
 r:Int
 a:Int
 s:Int
structure Lf.Ok (f:Lf):Prop where
 h:f.h=0∨f.h=1
 l : -8<=f.l/\f.l<=8
 r : -8<=f.r/\f.r<=8
 a : -64<=f.a/\f.a<=64
 s:0<=f.s/\f.s<=8
def gainF (f:Lf)(x y:Int):Int:=(f.l*x+f.r*y+f.a) / 2^f.s.toNat
def cntF (h n st:Int):Nat:=(if h*st<n then (n-h*st-1) / (2*st)+1 else 0).toNat
theorem cnt_lt {h n st:Int}(hs:0<st)(i:Nat):i<cntF h n st↔h*st+(i:Int)*(2*st)<n:=by
 unfold cntF
 have h2:0<2*st:=by lia
 have h0:0<=(i:Int)*(2*st):=Int.mul_nonneg (by lia) (by lia)
 split
 .have e:=Int.le_ediv_iff_mul_le (a:=(i:Int)) (b:=n-h*st-1) h2
  constructor
  .intro z
   lia
  .intro z
   lia
 .lia
def plcF (h n st:Int):List Int:=if n<=st then [] else (List.range (cntF h n st)).map λ(i:Nat)=>h*st+(i:Int)*(2*st)
theorem plc_mem {h n st t:Int}(hs:0<st):t∈plcF h n st↔¬ n<=st/\t<n/\∃i:Nat,t=h*st+(i:Int)*(2*st):=by
 unfold plcF
 split
 .rename_i hn
  constructor
  .intro z;cases z
  .intro z;exact absurd hn z.1
 .rename_i hn
  rw[List.mem_map]
  constructor
  .rintro ⟨i,hi,rfl⟩
   exact⟨hn,(cnt_lt hs i).mp (List.mem_range.mp hi),i,rfl⟩
  .rintro ⟨_,h1,i,rfl⟩
   exact⟨i,List.mem_range.mpr ((cnt_lt hs i).mpr h1),rfl⟩
theorem plc_nodup {h n st:Int}(hs:0<st):(plcF h n st).Nodup:=by
 unfold plcF
 split
 .exact List.nodup_nil
 .refine List.Pairwise.map _ (λi j hij=>?_) List.nodup_range
  intro e
  have:(i:Int)*(2*st)=(j:Int)*(2*st):=by lia
  have:=Int.eq_of_mul_eq_mul_right (by lia) this
  lia
theorem nb_in {h n st t:Int}(hs:0<st)(hh:h=0∨h=1)(ht:t∈plcF h n st):(0<=t/\t<n)/\(0<=nbL t n st/\nbL t n st<n)/\(0<=nbR t n st/\nbR t n st<n)/\¬ (t-st<0/\n<=t+st):=by
 obtain⟨h1,h2,i,rfl⟩:=(plc_mem hs).mp ht
 have hi:0<=(i:Int)*(2*st):=Int.mul_nonneg (by lia) (by lia)
 have hz:0<=h*st:=by rcases hh with rfl |rfl<;>lia
 have key:h*st+(i:Int)*(2*st)-st<0->h*st+(i:Int)*(2*st)=0:=by
  intro z
  rcases Nat.eq_zero_or_pos i with rfl |hp
  .rcases hh with rfl |rfl
   .simp
   .simp at z ⊢<;>omega
  .have:1*(2*st)<=(i:Int)*(2*st):=Int.mul_le_mul_of_nonneg_right (by lia) (by lia)
   lia
 generalize h*st+(i:Int)*(2*st)=t at *
 unfold nbL nbR
 refine⟨⟨by lia,h2⟩,?_,?_,λz=>?_⟩
 .split<;>rename_i z
  .have:=key z;lia
  .lia
 .split
  .by_cases z:t-st<0
   .have:=key z;omega
   .lia
  .lia
 .have:=key z.1;lia
theorem nb_off {h n st t u:Int}(hs:0<st)(ht:∃i:Nat,t=h*st+(i:Int)*(2*st))(hu:u=nbL t n st∨u=nbR t n st):¬ ∃j:Nat,u=h*st+(j:Int)*(2*st):=by
 rintro⟨j,hj⟩
 obtain⟨i,hi⟩:=ht
 have key:∀d:Int,d=1∨d = -1->¬ (t+d*st=h*st+(j:Int)*(2*st)):=by
  intro d hd e
  have e2:((j:Int)-i)*(2*st)=d*st:=by rw[Int.sub_mul];lia
  have e3:(((j:Int)-i)*2-d)*st=0:=by rw[Int.sub_mul,Int.mul_assoc];omega
  rcases Int.mul_eq_zero.mp e3 with z |z
  .rcases hd with rfl |rfl<;>lia
  .lia
 have k1:=key 1 (.inl rfl)
 have k2:=key (-1) (.inr rfl)
 unfold nbL nbR at hu
 rcases hu with rfl |rfl
 .split at hj
  .exact k1 (by lia)
  .exact k2 (by lia)
 .split at hj
  .exact k2 (by lia)
  .exact k1 (by lia)
def thingF (sg:Int)(f:Lf)(st:Int)(xs:List Int)(t:Int):Int:=
 xs.getD t.toNat 0+sg*gainF f (xs.getD (nbL t xs.length st).toNat 0) (xs.getD (nbR t xs.length st).toNat 0)
def turnF (sg:Int)(f:Lf)(st:Int)(xs:List Int)(t:Int):List Int:=xs.set t.toNat (thingF sg f st xs t)
def liftF (sg:Int)(f:Lf)(st:Int)(xs:List Int):List Int:=(plcF f.h xs.length st).foldl (turnF sg f st) xs
theorem foldl_nat (sg:Int)(f:Lf)(st:Int):∀(ts:List Int) (xs:List Int),(∀t∈ts,0<=t)->ts.foldl (turnF sg f st) xs=(ts.map Int.toNat).foldl (λxs t=>xs.set t (thingF sg f st xs (t:Int))) xs
 | [],_,_=>rfl
 |t::ts,xs,h=>by
  rw[List.map_cons,List.foldl_cons,List.foldl_cons,foldl_nat sg f st ts _ λu hu=>h u (List.mem_cons_of_mem _ hu)]
  have:=h t List.mem_cons_self
  unfold turnF
  rw[show ((t.toNat:Nat):Int)=t by lia]
theorem lift_at {sg:Int}{f:Lf}{st:Int}{xs:List Int}(hs:0<st)(hh:f.h=0∨f.h=1)(k:Nat):
  (((plcF f.h xs.length st).take k).foldl (turnF sg f st) xs).length=xs.length/\
  ∀p:Nat,(((plcF f.h xs.length st).take k).foldl (turnF sg f st) xs).getD p 0=if (p:Int)∈(plcF f.h xs.length st).take k then thingF sg f st xs p else xs.getD p 0:=by
 by_cases hn:(xs.length:Int)<=st
 .have e:plcF f.h xs.length st=[]:=if_pos hn
  rw[e]
  exact⟨by simp,λp=>by simp⟩
 have nn:∀t∈(plcF f.h xs.length st).take k,0<=t/\t<xs.length/\t∈plcF f.h xs.length st:=λt ht=>by
  have hm:=List.mem_of_mem_take ht
  have:=(nb_in hs hh hm).1
  exact⟨this.1,this.2,hm⟩
 rw[foldl_nat sg f st _ xs λt ht=>(nn t ht).1]
 have nd:(((plcF f.h xs.length st).take k).map Int.toNat).Nodup:=by
  rw[List.Nodup,List.pairwise_map]
  refine List.Pairwise.imp_of_mem (R:=λa b=>a≠b) (λ{a b} ha hb hab e=>hab ?_) ((plc_nodup hs).sublist (List.take_sublist _ _))
  have:=(nn a ha).1
  have:=(nn b hb).1
  lia
 obtain⟨e1,e2⟩:=foldl_at (F:=λt ys=>thingF sg f st ys (t:Int)) (λp=>∃i:Nat,(p:Int)=f.h*st+(i:Int)*(2*st)) xs.length (λt ys zs hy hz ht hlt hp=>by
   unfold thingF
   have hm:(t:Int)∈plcF f.h xs.length st:=(plc_mem hs).mpr ⟨hn,by (clear hn;lia),ht⟩
   obtain⟨_,b1,b2,_⟩:=nb_in hs hh hm
   rw[hy,hz]
   have a1:=hp (nbL t xs.length st).toNat (.inr λz=>nb_off hs ht (.inl rfl) (by rw[show (((nbL (t:Int) xs.length st).toNat:Nat):Int)=nbL t xs.length st by omega]at z;exact z))
   have a2:=hp (nbR t xs.length st).toNat (.inr λz=>nb_off hs ht (.inr rfl) (by rw[show (((nbR (t:Int) xs.length st).toNat:Nat):Int)=nbR t xs.length st by omega]at z;exact z))
   rw[a1,a2,hp _ (.inl (by lia))]) _ xs rfl nd (λt ht=>by
   obtain⟨u,hu,rfl⟩:=List.mem_map.mp ht
   obtain⟨h1,h2,h3⟩:=nn u hu
   obtain⟨_,_,i,hi⟩:=(plc_mem hs).mp h3
   exact⟨⟨i,by lia⟩,by lia⟩)
 refine⟨e1,λp=>?_⟩
 rw[e2 p]
 have:p∈((plcF f.h xs.length st).take k).map Int.toNat↔(p:Int)∈(plcF f.h xs.length st).take k:=by
  constructor
  .intro z
   obtain⟨u,hu,e⟩:=List.mem_map.mp z
   have:=(nn u hu).1
   rw[show (p:Int)=u by (clear hs hn e1;lia)];exact hu
  .intro z
   exact List.mem_map.mpr ⟨_,z,by (clear hs hn e1;lia)⟩
 by_cases hp:(p:Int)∈(plcF f.h xs.length st).take k
 .rw [if_pos hp,if_pos (this.mpr hp)]
 .rw [if_neg hp,if_neg λz=>hp (this.mp z)]
theorem lift_all {sg:Int}{f:Lf}{st:Int}{xs:List Int}(hs:0<st)(hh:f.h=0∨f.h=1):
  (liftF sg f st xs).length=xs.length/\∀p:Nat,(liftF sg f st xs).getD p 0=if (p:Int)∈plcF f.h xs.length st then thingF sg f st xs p else xs.getD p 0:=by
 have h:=lift_at (sg:=sg) (xs:=xs) hs hh (plcF f.h xs.length st).length
 rw[List.take_length]at h
 exact h
def raiseF (fs:List Lf)(st:Int)(xs:List Int):List Int:=fs.foldl (λxs f=>liftF 1 f st xs) xs
theorem raise_len {st:Int}(hs:0<st):∀{fs:List Lf} (xs:List Int),(∀f∈fs,f.h=0∨f.h=1)->(raiseF fs st xs).length=xs.length
 | [],_,_=>rfl
 |f::fs,xs,h=>by
  unfold raiseF
  exact (raise_len hs (liftF 1 f st xs) λg hg=>h g (List.mem_cons_of_mem _ hg)).trans (lift_all hs (h f List.mem_cons_self)).1
section GL
variable {α β:Type}
theorem getD_setG (z:α)(xs:List α)(t p:Nat)(v:α)(h:t<xs.length):(xs.set t v).getD p z=if p=t then v else xs.getD p z:=by
 rw[List.getD_eq_getElem?_getD,List.getD_eq_getElem?_getD,List.getElem?_set]
 by_cases e:p=t
 .subst e
  rw[if_pos rfl,if_pos rfl,if_pos h];rfl
 .rw [if_neg (λz=>e z.symm),if_neg e]
theorem ext_getDG (z:α){xs ys:List α}(hl:xs.length=ys.length)(h:∀p:Nat,p<xs.length->xs.getD p z=ys.getD p z):xs=ys:=by
 refine List.ext_getElem hl λi h1 h2=>?_
 have:=h i h1
 rw[List.getD_eq_getElem?_getD,List.getD_eq_getElem?_getD,List.getElem?_eq_getElem h1,List.getElem?_eq_getElem h2]at this
 exact this
def gThing (z:α)(G:α->α->α->α)(st:Int)(xs:List α)(t:Int):α:=G (xs.getD t.toNat z) (xs.getD (nbL t xs.length st).toNat z) (xs.getD (nbR t xs.length st).toNat z)
def gTurn (z:α)(G:α->α->α->α)(st:Int)(xs:List α)(t:Int):List α:=xs.set t.toNat (gThing z G st xs t)
def gLift (z:α)(G:α->α->α->α)(h st:Int)(xs:List α):List α:=(plcF h xs.length st).foldl (gTurn z G st) xs
theorem gTurn_len {z:α}{G:α->α->α->α}{st:Int}:∀(ts:List Int) (xs:List α),(ts.foldl (gTurn z G st) xs).length=xs.length
 | [],_=>rfl
 |t::ts,xs=>by
  rw[List.foldl_cons,gTurn_len ts]
  exact List.length_set
theorem g_at {z:α}{G:α->α->α->α}{h st:Int}{xs:List α}(hs:0<st)(hh:h=0∨h=1):∀(k:Nat),
  (((plcF h xs.length st).take k).foldl (gTurn z G st) xs).length=xs.length/\
  ∀p:Nat,(((plcF h xs.length st).take k).foldl (gTurn z G st) xs).getD p z=if (p:Int)∈(plcF h xs.length st).take k then gThing z G st xs p else xs.getD p z
 | 0=>⟨rfl,λp=>rfl⟩
 |k + 1 => by
  obtain⟨l1,g1⟩:=g_at hs hh k
  by_cases hk:k<(plcF h xs.length st).length
  .rw [List.take_succ_eq_append_getElem hk,List.foldl_append]
   have htm:(plcF h xs.length st)[k]∈plcF h xs.length st:=List.getElem_mem hk
   generalize ht:(plcF h xs.length st)[k]=t at htm ⊢
   obtain⟨b0,b1,b2,_⟩:=nb_in hs hh htm
   obtain⟨_,_,i,hi⟩:=(plc_mem hs).mp htm
   have o1:¬ nbL t xs.length st∈(plcF h xs.length st).take k:=λz=>nb_off hs ⟨i,hi⟩ (.inl rfl) ((plc_mem hs).mp (List.mem_of_mem_take z)).2.2
   have o2:¬ nbR t xs.length st∈(plcF h xs.length st).take k:=λz=>nb_off hs ⟨i,hi⟩ (.inr rfl) ((plc_mem hs).mp (List.mem_of_mem_take z)).2.2
   have o0:¬ t∈(plcF h xs.length st).take k:=λz=>by
    obtain⟨q,hq,eq⟩:=List.mem_iff_getElem.mp z
    rw[List.length_take]at hq
    rw[List.getElem_take]at eq
    have hne:=List.pairwise_iff_getElem.mp (plc_nodup hs) q k (by (clear l1 hi eq;lia)) hk (by (clear l1 hi eq;lia))
    exact hne (by rw[eq,ht])
   generalize ((plcF h xs.length st).take k).foldl (gTurn z G st) xs=wc at l1 g1
   have e0:gThing z G st wc t=gThing z G st xs t:=by
    unfold gThing
    rw[l1,g1,g1,g1,show ((t.toNat:Nat):Int)=t by (clear ht l1;lia),if_neg o0,show (((nbL t xs.length st).toNat:Nat):Int)=nbL t xs.length st by (clear ht hi l1;lia),if_neg o1,show (((nbR t xs.length st).toNat:Nat):Int)=nbR t xs.length st by (clear ht hi l1;lia),if_neg o2]
   refine⟨by rw[List.foldl_cons];show (wc.set _ _).length=_;rw[List.length_set];exact l1,λp=>?_⟩
   show (wc.set t.toNat (gThing z G st wc t)).getD p z=_
   rw[getD_setG z wc t.toNat p _ (by (clear ht;lia)),e0,g1 p]
   by_cases e:p=t.toNat
   .have e':(p:Int)=t:=by (clear ht l1;lia)
    rw[if_pos e,if_pos (by rw[e'];simp),e']
   .rw [if_neg e]
    have:((p:Int)∈(plcF h xs.length st).take k++[t])↔(p:Int)∈(plcF h xs.length st).take k:=by
     rw[List.mem_append,List.mem_singleton]
     constructor
     .rintro (q |q)
      .exact q
      .clear ht l1;lia
     .exact .inl
    by_cases hp:(p:Int)∈(plcF h xs.length st).take k
    .rw [if_pos hp,if_pos (this.mpr hp)]
    .rw [if_neg hp,if_neg λq=>hp (this.mp q)]
  .rw [List.take_of_length_le (by lia)]
   rw[List.take_of_length_le (by lia)]at l1 g1
   exact⟨l1,g1⟩
theorem g_all {z:α}{G:α->α->α->α}{h st:Int}{xs:List α}(hs:0<st)(hh:h=0∨h=1):
  (gLift z G h st xs).length=xs.length/\∀p:Nat,(gLift z G h st xs).getD p z=if (p:Int)∈plcF h xs.length st then gThing z G st xs p else xs.getD p z:=by
 have q:=g_at (z:=z) (G:=G) (xs:=xs) hs hh (plcF h xs.length st).length
 rw[List.take_length]at q
 exact q
def gLowerK (z:α)(G:Lf->α->α->α->α)(fs:List Lf)(i:Nat)(st:Int)(xs:List α):List α:=(fs.reverse.take i).foldl (λxs f=>gLift z (G f) f.h st xs) xs
def gLower (z:α)(G:Lf->α->α->α->α)(fs:List Lf)(st:Int)(xs:List α):List α:=fs.reverse.foldl (λxs f=>gLift z (G f) f.h st xs) xs
theorem gLowerK_zero {z:α}{G:Lf->α->α->α->α}{fs:List Lf}{st:Int}{xs:List α}:gLowerK z G fs 0 st xs=xs:=rfl
theorem gLowerK_all {z:α}{G:Lf->α->α->α->α}{fs:List Lf}{st:Int}{xs:List α}:gLowerK z G fs fs.length st xs=gLower z G fs st xs:=by
 unfold gLowerK gLower
 rw[List.take_of_length_le (by simp)]
theorem gLowerK_succ {z:α}{G:Lf->α->α->α->α}{fs:List Lf}{i:Nat}{st:Int}{xs:List α}{f:Lf}(hi:i<fs.length)(h:fs[fs.length-1-i]?=some f):gLowerK z G fs (i+1) st xs=gLift z (G f) f.h st (gLowerK z G fs i st xs):=by
 unfold gLowerK
 have hi':i<fs.reverse.length:=by simpa using hi
 have e:fs.reverse[i]=f:=by
  have:=List.getElem?_reverse hi
  rw[h,List.getElem?_eq_getElem hi']at this
  exact Option.some.inj this
 rw[List.take_succ_eq_append_getElem hi',e,List.foldl_append]
 rfl
theorem gLift_len {z:α}{G:α->α->α->α}{h st:Int}{xs:List α}:(gLift z G h st xs).length=xs.length:=gTurn_len _ _
theorem gFold_len {z:α}{G:Lf->α->α->α->α}{st:Int}:∀(gs:List Lf) (xs:List α),(gs.foldl (λxs f=>gLift z (G f) f.h st xs) xs).length=xs.length
 | [],_=>rfl
 |g::gs,xs=>by rw[List.foldl_cons,gFold_len gs,gLift_len]
theorem gLowerK_len {z:α}{G:Lf->α->α->α->α}{fs:List Lf}{i:Nat}{st:Int}{xs:List α}:(gLowerK z G fs i st xs).length=xs.length:=gFold_len _ _
theorem gLower_len {z:α}{G:Lf->α->α->α->α}{fs:List Lf}{st:Int}{xs:List α}:(gLower z G fs st xs).length=xs.length:=gFold_len _ _
end GL
abbrev Sp2:=Int×Int
def sGain (f:Lf)(l r:Sp2):Sp2:=
 let tm (s:Sp2) (m:Int):Sp2:=if m<0 then (s.2*m,s.1*m) else (s.1*m,s.2*m)
 (((tm l f.l).1+(tm r f.r).1+f.a) / 2^f.s.toNat,((tm l f.l).2+(tm r f.r).2+f.a) / 2^f.s.toNat)
def sDown (f:Lf)(x l r:Sp2):Sp2:=(x.1-(sGain f l r).2,x.2-(sGain f l r).1)
theorem rngN_lt {lo hi c:Int}(hc:0<c)(i:Nat):i<rngN lo hi c↔lo+(i:Int)*c<hi:=by
 unfold rngN Builtin.Range.rangeSize
 rw[if_pos (show c > 0 from hc)]
 have h0:0<=(i:Int)*c:=Int.mul_nonneg (by lia) (by lia)
 split
 .have e:=Int.le_ediv_iff_mul_le (a:=(i:Int)) (b:=hi-lo-1) hc
  have e0:0<=(hi-lo-1) / c:=Int.ediv_nonneg (by lia) (by lia)
  constructor
  .intro z
   have:=e.mp (by omega)
   lia
  .intro z
   have:=e.mpr (by lia)
   lia
 .simp only[Int.toNat_zero]
  lia
theorem nat_eq_of_lt {a b:Nat}(h:∀i,i<a↔i<b):a=b:=by
 rcases Nat.lt_trichotomy a b with z |z |z
 .exact absurd ((h a).mpr z) (Nat.lt_irrefl _)
 .exact z
 .exact absurd ((h b).mp z) (Nat.lt_irrefl _)
section PT
variable {α:Type}
end PT
theorem ixN_in {n:Nat}{i:Int}(h0:0<=i)(h:i<n):ixN n i=some i.toNat:=by
 unfold ixN
 rw[if_pos h0,if_pos h]
theorem atI_map {α:Type}(z:α){g:α->D}{xs:List α}{i:Int}(h0:0<=i)(h:i<xs.length):atI (xs.map g) i=some (g (xs.getD i.toNat z)):=by
 have hi:i.toNat<xs.length:=by lia
 have e:=atI_nat (xs:=xs.map g) (j:=i.toNat) (v:=g (xs.getD i.toNat z)) (by simp[hi])
 rwa[show ((i.toNat:Nat):Int)=i by lia]at e
theorem val_fzG {α:Type}{xs:List α}{g:α->D}:List.map OV.val (xs.map λx=>OV.fz (g x))=xs.map g:=by
 rw[List.map_map];rfl
theorem fz_mapG {α:Type}{xs:List α}{g:α->D}:(xs.map g).map OV.fz=xs.map λx=>OV.fz (g x):=by
 rw[List.map_map];rfl
theorem set_mapG {α β:Type}{xs:List α}{i:Nat}{v:α}{g:α->β}:(xs.map g).set i (g v)=(xs.set i v).map g:=by
 rw[List.map_set]
theorem rng_cnt {h n st:Int}(hs:0<st):rngN (h*st) n (2*st)=cntF h n st:=by
 unfold rngN cntF Builtin.Range.rangeSize
 rw[if_pos (show 2*st > 0 by lia)]
def plcK (h n st:Int)(k:Nat):List Int:=if n<=st then [] else (List.range k).map λ(i:Nat)=>h*st+(i:Int)*(2*st)
def plD (n st:Int)(t:Int):D:=.tup [.int t,.int (nbL t n st),.int (nbR t n st)]
abbrev s_lifted_places:Stmt:=top 28
theorem sc_lifted_places:FnScope ["half","many","stride","found","at","pair"] ["half","many","stride"] (Xac s_lifted_places):=by walk_at "S"
def sp_lifted_places:DSp:=λds P=>match ds with
 | [.int h,.int n,.int st]=>((h=0∨h=1)/\0<st/\st<=64/\0<=n/\n<=100000)/\P (.nl ((plcF h n st).map λt=>.fz (plD n st t)))
 |_=>False
theorem ok_lifted_places {f:Addr}{fd:FuncData}(Df:DefAt K mg "lifted_places" s_lifted_places f fd)(B:BltV mg)(KV:KitV K)(c_neighbours:Cal P w K mg base "neighbours" 1 ["at","many","stride"] (spV K 3 sp_neighbours)):
  Cal P w K mg base "lifted_places" 2 ["half","many","stride"] (spV K 3 sp_lifted_places):=by
 refine CalV.of Df sc_lifted_places (by walk_at "b") rfl (λc A o s H E hr=>⟨_,_,(Xah (ps_set (i:=3) sc_lifted_places.nd rfl (Or.inl rfl) (pe_lstS Xae))
   (Xah (ps_for PassesOwn.never rfl (pi_range3 (by rfl) (by exact B.range) (Xaa (Xay op_mul (pv 0) (pv 2)) (Xaa (pv 1) (Xaa (Xay op_mul Xal (pv 2)) Xae)))) (Xa6 (i:=4) sc_lifted_places.nd rfl (Or.inl rfl)) (Xah (ps_set (i:=5) sc_lifted_places.nd rfl (Or.inl rfl) (Xav c_neighbours (hr.mono (by decide)) (by rfl) (Xaa (pv 4) (Xaa (pv 1) (Xaa (pv 2) Xae)))))
   (Xai (ps_if (pt_cmpR op_notN (pv 5) pe_non (nomark _)) (Xai (ps_expr (pe_bm PySem.F.plainAttrs_list PySem.F.slot_list_append PySem.F.type_list_append mt_append (pv 3) (Xaa (pe_tupS (Xaa (pv 4) (Xaa (Xaz Xau (pv 5) Xal (λ_ _=>rfl)) (Xaa (Xaz Xau (pv 5) Xal (λ_ _=>rfl)) Xae)))) Xae)))) pss_nil))))
   (Xai (Xas (pv 3))))),
  (Xan (sS_set (sO_lst sAO_nil))
   (Xan (sS_for (sI_rng3 (Xaj (Xaq (Xao oS_i Xad Xad)) (Xaj Xad (Xaj (Xaq (Xao oS_i (Xaq Xag) Xad)) Xap)))) sG_name (Xan (sS_set (sO_f (sF_o (Xar (Xab Xaf (Xab Xaf (Xab Xaf Xak)))))))
   (sS_if (sT_test (Xao oS_notN Xad (Xaq sF_non))) (sS_app (sO_f (sF_tup (Xab Xaf (Xab (sF_opF Xat Xaf Xag) (Xab (sF_opF Xat Xaf Xag) Xak)))))) sS_next)))
   sS_retV)),?_⟩)
 intro ds Pr h
 unfold sp_lifted_places at h
 split at h
 .rename_i h' n st
  obtain⟨⟨hh,s0,s1,n0,n1⟩,k⟩:=h
  fin2
  refine⟨.inr ⟨by lia,by lia⟩,⟨by rcases hh with rfl |rfl<;>lia,by rcases hh with rfl |rfl<;>lia,by lia,by lia,by lia,by lia⟩,?_⟩
  rw[rng_cnt s0]
  refine⟨λi δ=>i<=cntF h' n st/\∃o1 o2,δ=[vI h',vI n,vI st,vL ((plcK h' n st i).map λt=>.fz (plD n st t)),o1,o2],⟨Nat.zero_le _,_,_,by unfold plcK;split<;>rfl⟩,?_,?_⟩
  .rintro i d δ hd ⟨hi',o1,o2,rfl⟩
   obtain⟨hi,rfl⟩:=rng_inv hd
   have hlt:=(cnt_lt (h:=h') (n:=n) s0 i).mp hi
   have hcnt:cntF h' n st<=100001:=by
    rcases Nat.lt_or_ge 100001 (cntF h' n st) with z |z
    .have:=(cnt_lt (h:=h') (n:=n) s0 100001).mp z
     have h0:0<=h'*st:=by rcases hh with rfl |rfl<;>lia
     lia
    .exact z
   fin2
   unfold sp_neighbours
   generalize ht:h'*st+(i:Int)*(2*st)=t at *
   try dsimp only
   split
   .rename_i hn
    fin2
    have hns:n<=st:=by
     rcases Int.lt_or_le st n with z |z
     .exact absurd hn (nb_in s0 hh ((plc_mem s0).mpr ⟨by lia,hlt,i,ht.symm⟩)).2.2.2
     .exact z
    have e:∀j,plcK h' n st j=[]:=λj=>if_pos hns
    rw[e,e]
    exact⟨hi,_,_,rfl⟩
   .rename_i hn
    fin2
    have hns:¬ n<=st:=λz=>hn (by
     have h0:0<=(i:Int)*(2*st):=Int.mul_nonneg (by lia) (by lia)
     have h1:0<=h'*st:=by rcases hh with rfl |rfl<;>lia
     constructor<;>omega)
    have el:(plcK h' n st i).length=i:=by unfold plcK;rw[if_neg hns];simp
    have e:plcK h' n st (i+1)=plcK h' n st i++[t]:=by
     unfold plcK
     rw[if_neg hns,if_neg hns,List.range_succ,List.map_append,<- ht]
     rfl
    rw[e,List.map_append]
    exact⟨by lia,hi,_,_,rfl⟩
  .rintro δ ⟨_,o1,o2,rfl⟩
   fin2
   rw[rng_len]
   exact k
 .exact h.elim
def lfD (f:Lf):D:=.tup [.int f.h,.int f.l,.int f.r,.int f.a,.int f.s]
abbrev s_gain:Stmt:=top 29
theorem sc_gain:FnScope ["lift","left","right"] ["lift","left","right"] (Xac s_gain):=by walk_at "S"
def sp_gain:DSp:=λds P=>∃(f:Lf) (x y:Int),ds=[lfD f,.int x,.int y]/\f.Ok/\P (.fz (.int (gainF f x y)))
theorem ok_gain {f:Addr}{fd:FuncData}(Df:DefAt K mg "gain" s_gain f fd)(B:BltV mg)(KV:KitV K)(g_SHIFT:∃t,mg "SHIFT"=some (.int 4 t))(g_ADD:∃t,mg "ADD"=some (.int 3 t))(g_LEFT:∃t,mg "LEFT"=some (.int 1 t))(g_RIGHT:∃t,mg "RIGHT"=some (.int 2 t)):
  Cal P w K mg base "gain" 1 ["lift","left","right"] (spV K 3 sp_gain):=by
 refine CalV.of Df sc_gain (by walk_at "b") rfl (λc A o s H E hr=>⟨_,_,(Xai (Xas (Xay op_shr (Xay op_add (Xay op_add (Xay op_mul (Xaz Xau (pv 0) (Xam (by rfl) g_LEFT) (λ_ _=>rfl)) (pv 1)) (Xay op_mul (Xaz Xau (pv 0) (Xam (by rfl) g_RIGHT) (λ_ _=>rfl)) (pv 2))) (Xaz Xau (pv 0) (Xam (by rfl) g_ADD) (λ_ _=>rfl))) (Xaz Xau (pv 0) (Xam (by rfl) g_SHIFT) (λ_ _=>rfl))))),
  (Xa1 (sO_f (Xao oS_i (Xaq (Xao oS_i0 (Xaq (Xao oS_i0 (Xaq (Xao oS_i (sB_op (OpF.b Xat) Xad (Xaq Xag)) Xad)) (Xaq (Xao oS_i (sB_op (OpF.b Xat) Xad (Xaq Xag)) Xad)))) (sB_op (OpF.b Xat) Xad (Xaq Xag)))) (sB_op (OpF.b Xat) Xad (Xaq Xag))))),?_⟩)
 rintro ds Pr ⟨f,x,y,rfl,ok,k⟩
 have h1:=ok.l
 have h2:=ok.r
 have h3:=ok.s
 simp only[lfD]
 fin2
 exact⟨mulL (by lia) (by lia),mulL (by lia) (by lia),h3.1,k⟩
def ladD (fs:List Lf):D:=.tup (fs.map lfD)
def iL (xs:List Int):D:=.lst (xs.map D.int)
def iO (xs:List Int):OV:=.nl (xs.map λx=>.fz (.int x))
theorem raise_snoc {st:Int}{xs:List Int}{fs:List Lf}{i:Nat}{f:Lf}(h:fs[i]?=some f):raiseF (fs.take (i+1)) st xs=liftF 1 f st (raiseF (fs.take i) st xs):=by
 obtain⟨hi,e⟩:=List.getElem?_eq_some_iff.mp h
 rw[List.take_succ_eq_append_getElem hi,e]
 unfold raiseF
 rw[List.foldl_append]
 rfl
abbrev s_raised:Stmt:=top 30
theorem sc_raised:FnScope ["row","ladder","stride","things","lift","at","left","right"] ["row","ladder","stride"] (Xac s_raised):=by walk_at "S"
def sp_raised:DSp:=λds P=>∃(xs:List Int) (fs:List Lf) (st:Int),ds=[iL xs,ladD fs,.int st]/\((∀f∈fs,f.Ok)/\0<st/\st<=64/\xs.length<=100000)/\P (iO (raiseF fs st xs))
theorem ok_raised {f:Addr}{fd:FuncData}(Df:DefAt K mg "raised" s_raised f fd)(B:BltV mg)(KV:KitV K)(g_HALF:∃t,mg "HALF"=some (.int 0 t))(c_lifted_places:Cal P w K mg base "lifted_places" 2 ["half","many","stride"] (spV K 3 sp_lifted_places))(c_gain:Cal P w K mg base "gain" 1 ["lift","left","right"] (spV K 3 sp_gain)):
  Cal P w K mg base "raised" 3 ["row","ladder","stride"] (spV K 3 sp_raised):=by
 refine CalV.of Df sc_raised (by walk_at "b") rfl (λc A o s H E hr=>⟨_,_,(Xah (ps_set (i:=3) sc_raised.nd rfl (Or.inl rfl) (pe_callTy call_listS (by rfl) B.list PyProof.Rows.boot_list (Xaa (pv 0) Xae)))
   (Xah (ps_for PassesOwn.never rfl (pi_tup (pv 1)) (Xa6 (i:=4) sc_raised.nd rfl (Or.inl rfl)) (Xai (ps_for PassesOwn.never rfl (pi_list (Xav c_lifted_places (hr.mono (by decide)) (by rfl) (Xaa (Xaz Xau (pv 4) (Xam (by rfl) g_HALF) (λ_ _=>rfl)) (Xaa (Xaw Xa3 (by rfl) B.len PySem.boot_len (Xaa (pv 0) Xae)) (Xaa (pv 2) Xae))))) (pg_tup (n:=3) rfl (pgs_cons (Xa6 (i:=5) sc_raised.nd rfl (Or.inl rfl)) (pgs_cons (Xa6 (i:=6) sc_raised.nd rfl (Or.inl rfl)) (pgs_cons (Xa6 (i:=7) sc_raised.nd rfl (Or.inl rfl)) pgs_nil)))) (Xai (ps_augS (pv 3) (pv 5) get_listV (Xav c_gain (hr.mono (by decide)) (by rfl) (Xaa (pv 4) (Xaa (Xaz ix_list (pv 3) (pv 6) (λ_ _=>rfl)) (Xaa (Xaz ix_list (pv 3) (pv 7) (λ_ _=>rfl)) Xae)))) ip_add set_list)))))
   (Xai (Xas (pv 3))))),
  (Xan (sS_set (sO_cb cO_list (Xab Xaf Xak)))
   (Xan (sS_for (sI_tup Xaf) sG_name (sS_for (sI_list (sF_o (Xar (Xab (sF_opF Xat Xaf Xag) (Xab (sF_cb cS_len (Xaj Xad Xap)) (Xab Xaf Xak)))))) (sG_tup (sGs_cons sG_name (sGs_cons sG_name (sGs_cons sG_name sGs_nil)))) (sS_augI Xad (Xaq (sF_o (sO_callB (Xaj Xad (Xaj (sB_op (OpF.b oF_ixL) Xad Xad) (Xaj (sB_op (OpF.b oF_ixL) Xad Xad) Xap)))))))))
   sS_retV)),?_⟩)
 rintro ds Pr ⟨xs,fs,st,rfl,⟨oks,s0,s1,hx⟩,k⟩
 simp only[iL,ladD]
 fin2
 refine⟨λi δ=>∃o1 o2 o3 o4,δ=[vD (iL xs),vD (ladD fs),vI st,some (.own (iO (raiseF (fs.take i) st xs))),o1,o2,o3,o4],⟨none,none,none,none,by simp[iL,ladD,iO,raiseF]⟩,?_,?_⟩
 .rintro i d δ hd ⟨o1,o2,o3,o4,rfl⟩
  obtain⟨f,hf,rfl⟩:=mget hd
  have okf:=oks f (List.mem_of_getElem? hf)
  have hlen:(raiseF (fs.take i) st xs).length=xs.length:=raise_len s0 xs λg hg=>(oks g (List.mem_of_mem_take hg)).h
  dsimp only
  rw[raise_snoc hf]
  generalize hc:raiseF (fs.take i) st xs=cur at hlen
  simp only[iL,ladD,iO,lfD]
  fin2
  simp only[sp_lifted_places]
  refine⟨⟨okf.h,s0,s1,by lia,by lia⟩,?_⟩
  fin2
  simp only[List.map_map,Function.comp_def,OV.val]
  rw[<- hlen]
  refine⟨λj δ=>∃o2 o3 o4,δ=[vD (iL xs),vD (ladD fs),vI st,some (.own (iO (((plcF f.h cur.length st).take j).foldl (turnF 1 f st) cur))),vD (lfD f),o2,o3,o4],⟨_,_,_,rfl⟩,?_,?_⟩
  .rintro j e δ he ⟨p2,p3,p4,rfl⟩
   obtain⟨t,ht,rfl⟩:=mget he
   have htm:t∈plcF f.h cur.length st:=List.mem_of_getElem? ht
   obtain⟨hjt,htt⟩:=List.getElem?_eq_some_iff.mp ht
   obtain⟨b0,b1,b2,_⟩:=nb_in s0 okf.h htm
   have hla:=(lift_at (sg:=1) (f:=f) (st:=st) (xs:=cur) s0 okf.h j).1
   have etake:(plcF f.h cur.length st).take (j+1)=(plcF f.h cur.length st).take j++[t]:=by
    rw[List.take_succ_eq_append_getElem hjt,htt]
   dsimp only
   rw[etake,List.foldl_append]
   generalize hw:((plcF f.h cur.length st).take j).foldl (turnF 1 f st) cur=wcur at hla
   simp only[iL,ladD,iO,plD,lfD]
   fin2
   refine⟨b0.1,_,get_fzI b0.1 (by lia),_,atI_ints b1.1 (by lia),_,atI_ints b2.1 (by lia),f,_,_,rfl,okf,?_⟩
   fin2
   simp only[List.foldl_cons,List.foldl_nil,turnF,thingF,hla,Int.one_mul]
   exact⟨_,_,_,rfl⟩
  .rintro δ ⟨p2,p3,p4,rfl⟩
   rw[List.length_map,List.take_length]
   exact⟨_,_,_,_,rfl⟩
 .rintro δ ⟨o1,o2,o3,o4,rfl⟩
  fin2
  rw[List.take_length]
  exact k
def spD (s:Sp2):D:=.tup [.int s.1,.int s.2]
def sL (xs:List Sp2):D:=.lst (xs.map spD)
def sO (xs:List Sp2):OV:=.nl (xs.map λs=>.fz (spD s))
theorem lfs_fzS {xs:List Sp2}:OV.lfs (xs.map λs=>OV.fz (spD s))=true:=by
 rw[OV.lfs_eq];simp[OV.lf,D.lf,D.lfs,spD]
theorem lf_spD {s:Sp2}:(spD s).lf=true:=by simp[D.lf,D.lfs,spD]
abbrev s_plus:Stmt:=top 8
theorem sc_plus:FnScope ["one","other"] ["one","other"] (Xac s_plus):=by walk_at "S"
def sp_plus:DSp:=λds P=>∃a b:Sp2,ds=[spD a,spD b]/\P (.fz (spD (a.1+b.1,a.2+b.2)))
theorem ok_plus {f:Addr}{fd:FuncData}(Df:DefAt K mg "plus" s_plus f fd)(B:BltV mg)(KV:KitV K):
  Cal P w K mg base "plus" 1 ["one","other"] (spV K 2 sp_plus):=by
 refine CalV.of Df sc_plus (by walk_at "b") rfl (λc A o s H E hr=>⟨_,_,(Xai (Xas (pe_tupS (Xaa (Xay op_add (Xaz Xau (pv 0) Xal (λ_ _=>rfl)) (Xaz Xau (pv 1) Xal (λ_ _=>rfl))) (Xaa (Xay op_add (Xaz Xau (pv 0) Xal (λ_ _=>rfl)) (Xaz Xau (pv 1) Xal (λ_ _=>rfl))) Xae))))),
  (Xa1 (sO_f (sF_tup (Xab (Xao oS_i0 (sB_op (OpF.b Xat) Xad (Xaq Xag)) (sB_op (OpF.b Xat) Xad (Xaq Xag))) (Xab (Xao oS_i0 (sB_op (OpF.b Xat) Xad (Xaq Xag)) (sB_op (OpF.b Xat) Xad (Xaq Xag))) Xak))))),?_⟩)
 rintro ds Pr ⟨a,b,rfl,k⟩
 simp only[spD]at k ⊢
 fin2
 exact k
abbrev s_minus:Stmt:=top 9
theorem sc_minus:FnScope ["one","other"] ["one","other"] (Xac s_minus):=by walk_at "S"
def sp_minus:DSp:=λds P=>∃a b:Sp2,ds=[spD a,spD b]/\P (.fz (spD (a.1-b.2,a.2-b.1)))
theorem ok_minus {f:Addr}{fd:FuncData}(Df:DefAt K mg "minus" s_minus f fd)(B:BltV mg)(KV:KitV K):
  Cal P w K mg base "minus" 1 ["one","other"] (spV K 2 sp_minus):=by
 refine CalV.of Df sc_minus (by walk_at "b") rfl (λc A o s H E hr=>⟨_,_,(Xai (Xas (pe_tupS (Xaa (Xay op_sub (Xaz Xau (pv 0) Xal (λ_ _=>rfl)) (Xaz Xau (pv 1) Xal (λ_ _=>rfl))) (Xaa (Xay op_sub (Xaz Xau (pv 0) Xal (λ_ _=>rfl)) (Xaz Xau (pv 1) Xal (λ_ _=>rfl))) Xae))))),
  (Xa1 (sO_f (sF_tup (Xab (Xao oS_i0 (sB_op (OpF.b Xat) Xad (Xaq Xag)) (sB_op (OpF.b Xat) Xad (Xaq Xag))) (Xab (Xao oS_i0 (sB_op (OpF.b Xat) Xad (Xaq Xag)) (sB_op (OpF.b Xat) Xad (Xaq Xag))) Xak))))),?_⟩)
 rintro ds Pr ⟨a,b,rfl,k⟩
 simp only[spD]at k ⊢
 fin2
 exact k
def tmS (s:Sp2)(m:Int):Sp2:=if m<0 then (s.2*m,s.1*m) else (s.1*m,s.2*m)
abbrev s_times:Stmt:=top 10
theorem sc_times:FnScope ["one","many"] ["one","many"] (Xac s_times):=by walk_at "S"
def sp_times:DSp:=λds P=>∃(a:Sp2) (m:Int),ds=[spD a,.int m]/\(-1000000<=m/\m<=1000000)/\P (.fz (spD (tmS a m)))
theorem ok_times {f:Addr}{fd:FuncData}(Df:DefAt K mg "times" s_times f fd)(B:BltV mg)(KV:KitV K):
  Cal P w K mg base "times" 1 ["one","many"] (spV K 2 sp_times):=by
 refine CalV.of Df sc_times (by walk_at "b") rfl (λc A o s H E hr=>⟨_,_,(Xah (ps_if (pt_cmpR op_lt (pv 1) Xal (nomark _)) (Xai (Xas (pe_tupS (Xaa (Xay op_mul (Xaz Xau (pv 0) Xal (λ_ _=>rfl)) (pv 1)) (Xaa (Xay op_mul (Xaz Xau (pv 0) Xal (λ_ _=>rfl)) (pv 1)) Xae))))) pss_nil)
   (Xai (Xas (pe_tupS (Xaa (Xay op_mul (Xaz Xau (pv 0) Xal (λ_ _=>rfl)) (pv 1)) (Xaa (Xay op_mul (Xaz Xau (pv 0) Xal (λ_ _=>rfl)) (pv 1)) Xae)))))),
  (Xan (sS_if (sT_test (Xao oS_b0 Xad (Xaq Xag))) (Xa1 (sO_f (sF_tup (Xab (Xao oS_i (sB_op (OpF.b Xat) Xad (Xaq Xag)) Xad) (Xab (Xao oS_i (sB_op (OpF.b Xat) Xad (Xaq Xag)) Xad) Xak))))) sS_next)
   (Xa1 (sO_f (sF_tup (Xab (Xao oS_i (sB_op (OpF.b Xat) Xad (Xaq Xag)) Xad) (Xab (Xao oS_i (sB_op (OpF.b Xat) Xad (Xaq Xag)) Xad) Xak)))))),?_⟩)
 rintro ds Pr ⟨a,m,rfl,hm,k⟩
 simp only[spD,tmS]at k ⊢
 fin2
 split
 .rename_i h
  rw[if_pos h]at k
  exact⟨mulR hm.1 hm.2,mulR hm.1 hm.2,k⟩
 .rename_i h
  rw[if_neg h]at k
  exact⟨mulR hm.1 hm.2,mulR hm.1 hm.2,k⟩
abbrev s_halved:Stmt:=top 11
theorem sc_halved:FnScope ["one","shift"] ["one","shift"] (Xac s_halved):=by walk_at "S"
def sp_halved:DSp:=λds P=>∃(a:Sp2) (m:Int),ds=[spD a,.int m]/\0<=m/\P (.fz (spD (a.1 / 2^m.toNat,a.2 / 2^m.toNat)))
theorem ok_halved {f:Addr}{fd:FuncData}(Df:DefAt K mg "halved" s_halved f fd)(B:BltV mg)(KV:KitV K):
  Cal P w K mg base "halved" 1 ["one","shift"] (spV K 2 sp_halved):=by
 refine CalV.of Df sc_halved (by walk_at "b") rfl (λc A o s H E hr=>⟨_,_,(Xai (Xas (pe_tupS (Xaa (Xay op_shr (Xaz Xau (pv 0) Xal (λ_ _=>rfl)) (pv 1)) (Xaa (Xay op_shr (Xaz Xau (pv 0) Xal (λ_ _=>rfl)) (pv 1)) Xae))))),
  (Xa1 (sO_f (sF_tup (Xab (Xao oS_i (sB_op (OpF.b Xat) Xad (Xaq Xag)) Xad) (Xab (Xao oS_i (sB_op (OpF.b Xat) Xad (Xaq Xag)) Xad) Xak))))),?_⟩)
 rintro ds Pr ⟨a,m,rfl,hm,k⟩
 simp only[spD]at k ⊢
 fin2
 exact⟨hm,hm,k⟩
theorem sGain_eq {f:Lf}{l r:Sp2}:sGain f l r=(((tmS l f.l).1+(tmS r f.r).1+f.a) / 2^f.s.toNat,((tmS l f.l).2+(tmS r f.r).2+f.a) / 2^f.s.toNat):=rfl
abbrev s_gain_span:Stmt:=top 32
theorem sc_gain_span:FnScope ["lift","left","right","both"] ["lift","left","right"] (Xac s_gain_span):=by walk_at "S"
def sp_gain_span:DSp:=λds P=>∃(f:Lf) (l r:Sp2),ds=[lfD f,spD l,spD r]/\f.Ok/\P (.fz (spD (sGain f l r)))
theorem ok_gain_span {f:Addr}{fd:FuncData}(Df:DefAt K mg "gain_span" s_gain_span f fd)(B:BltV mg)(KV:KitV K)(g_SHIFT:∃t,mg "SHIFT"=some (.int 4 t))(g_LEFT:∃t,mg "LEFT"=some (.int 1 t))(g_RIGHT:∃t,mg "RIGHT"=some (.int 2 t))(g_ADD:∃t,mg "ADD"=some (.int 3 t))(c_plus:Cal P w K mg base "plus" 1 ["one","other"] (spV K 2 sp_plus))(c_times:Cal P w K mg base "times" 1 ["one","many"] (spV K 2 sp_times))(c_halved:Cal P w K mg base "halved" 1 ["one","shift"] (spV K 2 sp_halved)):
  Cal P w K mg base "gain_span" 2 ["lift","left","right"] (spV K 3 sp_gain_span):=by
 refine CalV.of Df sc_gain_span (by walk_at "b") rfl (λc A o s H E hr=>⟨_,_,(Xah (ps_set (i:=3) sc_gain_span.nd rfl (Or.inl rfl) (Xav c_plus (hr.mono (by decide)) (by rfl) (Xaa (Xav c_times (hr.mono (by decide)) (by rfl) (Xaa (pv 1) (Xaa (Xaz Xau (pv 0) (Xam (by rfl) g_LEFT) (λ_ _=>rfl)) Xae))) (Xaa (Xav c_times (hr.mono (by decide)) (by rfl) (Xaa (pv 2) (Xaa (Xaz Xau (pv 0) (Xam (by rfl) g_RIGHT) (λ_ _=>rfl)) Xae))) Xae))))
   (Xai (Xas (Xav c_halved (hr.mono (by decide)) (by rfl) (Xaa (Xav c_plus (hr.mono (by decide)) (by rfl) (Xaa (pv 3) (Xaa (pe_tupS (Xaa (Xaz Xau (pv 0) (Xam (by rfl) g_ADD) (λ_ _=>rfl)) (Xaa (Xaz Xau (pv 0) (Xam (by rfl) g_ADD) (λ_ _=>rfl)) Xae))) Xae))) (Xaa (Xaz Xau (pv 0) (Xam (by rfl) g_SHIFT) (λ_ _=>rfl)) Xae)))))),
  (Xan (sS_set (sO_f (sF_o (Xar (Xab (sF_o (Xar (Xab Xaf (Xab (sF_opF Xat Xaf Xag) Xak)))) (Xab (sF_o (Xar (Xab Xaf (Xab (sF_opF Xat Xaf Xag) Xak)))) Xak))))))
   (Xa1 (Xar (Xab (sF_o (Xar (Xab Xaf (Xab (sF_tup (Xab (sF_opF Xat Xaf Xag) (Xab (sF_opF Xat Xaf Xag) Xak))) Xak)))) (Xab (sF_opF Xat Xaf Xag) Xak))))),?_⟩)
 rintro ds Pr ⟨f,l,r,rfl,ok,k⟩
 have h1:=ok.l
 have h2:=ok.r
 have h3:=ok.s
 simp only[lfD]
 fin2
 refine⟨l,f.l,rfl,⟨by lia,by lia⟩,r,f.r,rfl,⟨by lia,by lia⟩,tmS l f.l,tmS r f.r,rfl,?_⟩
 fin2
 refine⟨_,(f.a,f.a),rfl,_,f.s,rfl,h3.1,?_⟩
 rw[sGain_eq]at k
 exact k
abbrev s_lowered_spans:Stmt:=top 33
theorem sc_lowered_spans:FnScope ["row","ladder","stride","things","lift","at","left","right"] ["row","ladder","stride"] (Xac s_lowered_spans):=by walk_at "S"
def sp_lowered_spans:DSp:=λds P=>∃(xs:List Sp2) (fs:List Lf) (st:Int),ds=[sL xs,ladD fs,.int st]/\((∀f∈fs,f.Ok)/\0<st/\st<=64/\xs.length<=100000)/\P (sO (gLower (0,0) sDown fs st xs))
theorem ok_lowered_spans {f:Addr}{fd:FuncData}(Df:DefAt K mg "lowered_spans" s_lowered_spans f fd)(B:BltV mg)(KV:KitV K)(g_HALF:∃t,mg "HALF"=some (.int 0 t))(c_lifted_places:Cal P w K mg base "lifted_places" 2 ["half","many","stride"] (spV K 3 sp_lifted_places))(c_minus:Cal P w K mg base "minus" 1 ["one","other"] (spV K 2 sp_minus))(c_gain_span:Cal P w K mg base "gain_span" 2 ["lift","left","right"] (spV K 3 sp_gain_span)):
  Cal P w K mg base "lowered_spans" 3 ["row","ladder","stride"] (spV K 3 sp_lowered_spans):=by
 refine CalV.of Df sc_lowered_spans (by walk_at "b") rfl (λc A o s H E hr=>⟨_,_,(Xah (ps_set (i:=3) sc_lowered_spans.nd rfl (Or.inl rfl) (pe_callTy call_listS (by rfl) B.list PyProof.Rows.boot_list (Xaa (pv 0) Xae)))
   (Xah (ps_for PassesOwn.never rfl (pi_reversed rfl B.reversed (Xaa (pv 1) Xae)) (Xa6 (i:=4) sc_lowered_spans.nd rfl (Or.inl rfl)) (Xai (ps_for PassesOwn.never rfl (pi_list (Xav c_lifted_places (hr.mono (by decide)) (by rfl) (Xaa (Xaz Xau (pv 4) (Xam (by rfl) g_HALF) (λ_ _=>rfl)) (Xaa (Xaw Xa3 (by rfl) B.len PySem.boot_len (Xaa (pv 0) Xae)) (Xaa (pv 2) Xae))))) (pg_tup (n:=3) rfl (pgs_cons (Xa6 (i:=5) sc_lowered_spans.nd rfl (Or.inl rfl)) (pgs_cons (Xa6 (i:=6) sc_lowered_spans.nd rfl (Or.inl rfl)) (pgs_cons (Xa6 (i:=7) sc_lowered_spans.nd rfl (Or.inl rfl)) pgs_nil)))) (Xai (ps_asg (Xav c_minus (hr.mono (by decide)) (by rfl) (Xaa (Xaz ix_list (pv 3) (pv 5) (λ_ _=>rfl)) (Xaa (Xav c_gain_span (hr.mono (by decide)) (by rfl) (Xaa (pv 4) (Xaa (Xaz ix_list (pv 3) (pv 6) (λ_ _=>rfl)) (Xaa (Xaz ix_list (pv 3) (pv 7) (λ_ _=>rfl)) Xae)))) Xae))) (pg_sub (pv 3) (pv 5) set_list))))))
   (Xai (Xas (pv 3))))),
  (Xan (sS_set (sO_cb cO_list (Xab Xaf Xak)))
   (Xan (sS_for (sI_rev (Xab Xaf Xak)) sG_name (sS_for (sI_list (sF_o (Xar (Xab (sF_opF Xat Xaf Xag) (Xab (sF_cb cS_len (Xaj Xad Xap)) (Xab Xaf Xak)))))) (sG_tup (sGs_cons sG_name (sGs_cons sG_name (sGs_cons sG_name sGs_nil)))) (sS_put (sO_callB (Xaj (sB_op (OpF.b oF_ixL) Xad Xad) (Xaj (Xaq (sF_o (sO_callB (Xaj Xad (Xaj (sB_op (OpF.b oF_ixL) Xad Xad) (Xaj (sB_op (OpF.b oF_ixL) Xad Xad) Xap)))))) Xap))) Xad)))
   sS_retV)),?_⟩)
 rintro ds Pr ⟨xs,fs,st,rfl,⟨oks,s0,s1,hx⟩,k⟩
 simp only[sL,ladD]
 fin2
 simp only[fz_mapG]
 refine⟨λi δ=>∃o1 o2 o3 o4,δ=[vD (sL xs),vD (ladD fs),vI st,some (.own (sO (gLowerK (0,0) sDown fs i st xs))),o1,o2,o3,o4],⟨none,none,none,none,by simp[sL,ladD,sO,gLowerK_zero]⟩,?_,?_⟩
 .rintro i d δ hd ⟨o1,o2,o3,o4,rfl⟩
  rw[<- List.map_reverse]at hd
  obtain⟨f,hf,rfl⟩:=mget hd
  have hil:i<fs.length:=by
   have:=(List.getElem?_eq_some_iff.mp hf).1
   rwa[List.length_reverse]at this
  rw[List.getElem?_reverse hil]at hf
  have okf:=oks f (List.mem_of_getElem? hf)
  have hlen:(gLowerK (0,0) sDown fs i st xs).length=xs.length:=gLowerK_len
  dsimp only
  rw[gLowerK_succ hil hf]
  generalize hc:gLowerK (0,0) sDown fs i st xs=cur at hlen
  simp only[sL,ladD,sO,lfD]
  fin2
  simp only[sp_lifted_places]
  refine⟨⟨okf.h,s0,s1,by lia,by lia⟩,?_⟩
  fin2
  simp only[List.map_map,Function.comp_def,OV.val]
  rw[<- hlen]
  refine⟨λj δ=>∃o2 o3 o4,δ=[vD (sL xs),vD (ladD fs),vI st,some (.own (sO (((plcF f.h cur.length st).take j).foldl (gTurn (0,0) (sDown f) st) cur))),vD (lfD f),o2,o3,o4],⟨_,_,_,rfl⟩,?_,?_⟩
  .rintro j e δ he ⟨p2,p3,p4,rfl⟩
   obtain⟨t,ht,rfl⟩:=mget he
   have htm:t∈plcF f.h cur.length st:=List.mem_of_getElem? ht
   obtain⟨hjt,htt⟩:=List.getElem?_eq_some_iff.mp ht
   obtain⟨b0,b1,b2,_⟩:=nb_in s0 okf.h htm
   have hla:=(g_at (z:=((0,0):Sp2)) (G:=sDown f) (h:=f.h) (st:=st) (xs:=cur) s0 okf.h j).1
   have etake:(plcF f.h cur.length st).take (j+1)=(plcF f.h cur.length st).take j++[t]:=by
    rw[List.take_succ_eq_append_getElem hjt,htt]
   dsimp only
   rw[etake,List.foldl_append]
   generalize hw:((plcF f.h cur.length st).take j).foldl (gTurn (0,0) (sDown f) st) cur=wcur at hla
   simp only[sL,ladD,sO,plD,lfD]
   fin2
   simp only[val_fzG]
   refine⟨_,atI_map (0,0) b0.1 (by (clear hx hil hlen htt;lia)),_,atI_map (0,0) b1.1 (by (clear hx hil hlen htt;lia)),_,atI_map (0,0) b2.1 (by (clear hx hil hlen htt;lia)),f,_,_,rfl,okf,?_⟩
   simp only[OV.lf,lf_spD,true_and]
   fin2
   refine⟨_,_,rfl,?_⟩
   simp only[OV.lf,lf_spD,true_and]
   refine⟨_,ixN_in b0.1 (by (clear hx hil hlen htt;lia)),?_⟩
   rw[set_mapG (g:=λs=>OV.fz (spD s))]
   simp only[List.foldl_cons,List.foldl_nil,gTurn,gThing,hla,sDown]
   exact⟨_,_,_,rfl⟩
  .rintro δ ⟨p2,p3,p4,rfl⟩
   rw[List.length_map,List.take_length]
   exact⟨_,_,_,_,rfl⟩
 .rintro δ ⟨o1,o2,o3,o4,rfl⟩
  fin2
  rw[List.length_reverse,List.length_map,gLowerK_all]
  exact k
abbrev fnTb:DTb:=[("raised",sp_raised),("lowered_spans",sp_lowered_spans)]
section SH
variable {α β:Type}
def tab (n:Nat)(f:Nat->β):List β:=(List.range n).map f
theorem tab_len {n:Nat}{f:Nat->β}:(tab n f).length=n:=by simp[tab]
theorem tab_get {n i:Nat}{f:Nat->β}(h:i<n):(tab n f)[i]?=some (f i):=by simp[tab,h]
theorem tab_getD {n i:Nat}{f:Nat->β}{d:β}(h:i<n):(tab n f).getD i d=f i:=by simp[tab,h]
theorem tab_ext {n:Nat}{f g:Nat->β}(h:∀i,i<n->f i=g i):tab n f=tab n g:=List.map_congr_left λi hi=>h i (List.mem_range.mp hi)
theorem tab_map {γ:Type}{n:Nat}{f:Nat->β}{g:β->γ}:(tab n f).map g=tab n λi=>g (f i):=by simp[tab]
theorem tab_self (z:α)(xs:List α):tab xs.length (λi=>xs.getD i z)=xs:=by
 refine ext_getDG z (by rw[tab_len]) λp hp=>?_
 rw[tab_len]at hp
 rw[tab_getD hp]
theorem tab_selfn (z:α){n:Nat}{xs:List α}(h:xs.length=n):tab n (λi=>xs.getD i z)=xs:=by subst h;exact tab_self z xs
theorem tab_set {n i:Nat}{f:Nat->β}{v:β}:(tab n f).set i v=tab n λj=>if j=i then v else f j:=by
 refine List.ext_getElem? λj=>?_
 rw[List.getElem?_set,tab_len]
 by_cases hj:j<n
 .rw [tab_get hj,tab_get hj]
  by_cases e:i=j
  .subst e;simp[hj]
  .rw [if_neg e,if_neg λz=>e z.symm]
 .have e1:(tab n f)[j]?=none:=List.getElem?_eq_none (by rw[tab_len];lia)
  have e2:(tab n λj=>if j=i then v else f j)[j]?=none:=List.getElem?_eq_none (by rw[tab_len];lia)
  rw[e1,e2]
  split
  .rw [if_neg (by lia)]
  .rfl
theorem atI_tab {n:Nat}{f:Nat->D}{i:Int}(h0:0<=i)(h:i<n):atI (tab n f) i=some (f i.toNat):=by
 have e:=atI_nat (xs:=tab n f) (tab_get (show i.toNat<n by lia))
 rwa[show ((i.toNat:Nat):Int)=i by lia]at e
def rowF (z:α)(op:List α->List α)(w st:Nat)(e:Nat->Nat->α):Nat->Nat->α:=λi j=>if i%st=0 then (op (tab w (e i))).getD j z else e i j
def colF (z:α)(op:List α->List α)(h st:Nat)(e:Nat->Nat->α):Nat->Nat->α:=λi j=>if j%st=0 then (op (tab h λi=>e i j)).getD i z else e i j
def eqS (h w:Nat)(e e':Nat->Nat->α):Prop:=∀i j,i<h->j<w->e i j=e' i j
theorem eqS.trans {h w:Nat}{a b c:Nat->Nat->α}(x:eqS h w a b)(y:eqS h w b c):eqS h w a c:=λi j hi hj=>(x i j hi hj).trans (y i j hi hj)
theorem eqS.symm {h w:Nat}{a b:Nat->Nat->α}(x:eqS h w a b):eqS h w b a:=λi j hi hj=>(x i j hi hj).symm
def layF (z:α)(op:Nat->List α->List α)(h w:Nat):Nat->(Nat->Nat->α)->Nat->Nat->α
 | 0,e=>e
 |n+1,e=>colF z (op n) h (2^n) (rowF z (op n) w (2^n) (layF z op h w n e))
def openF (z:α)(op:Nat->List α->List α)(h w:Nat):Nat->Nat->(Nat->Nat->α)->Nat->Nat->α
 | 0,_,e=>e
 |n+1,d,e=>if d<=n then openF z op h w n d (rowF z (op n) w (2^n) (colF z (op n) h (2^n) e)) else e
end SH
def shT {α:Type}(g:α->D)(h w:Nat)(e:Nat->Nat->α):List OV:=tab h λi=>.nl (tab w λj=>.fz (g (e i j)))
def shV {α:Type}(g:α->D)(h w:Nat)(e:Nat->Nat->α):List D:=tab h λi=>.lst (tab w λj=>g (e i j))
theorem shT_val {α:Type}{g:α->D}{h w:Nat}{e:Nat->Nat->α}:(shT g h w e).map OV.val=shV g h w e:=by
 unfold shT shV
 rw[tab_map]
 simp only[OV.val,OV.vals_eq,tab_map]
theorem shT_ext {α:Type}{g:α->D}{h w:Nat}{e e':Nat->Nat->α}(q:eqS h w e e'):shT g h w e=shT g h w e':=by
 exact tab_ext λi hi=>by rw[tab_ext λj hj=>by rw[q i j hi hj]]
structure OpOk (α:Type) (z:α) (g:α->D) (op:List α->List α) (n:Nat) (st:Nat) (lad:D) (sp:DSp):Prop where
 run:∀r:List α,r.length=n->∀Q:OV->Prop,Q (.nl ((op r).map λx=>.fz (g x)))->sp [.lst (r.map g),lad,.int st] Q
 len:∀r:List α,r.length=n->(op r).length=n
 off:∀(r:List α) (i:Nat),r.length=n->i<n->i%st≠0->(op r).getD i z=r.getD i z
 lf:∀x,(g x).lf=true
abbrev s_change_rows:Stmt:=top 38
theorem sc_change_rows:FnScope ["sheet","doing","ladder","stride","i"] ["sheet","doing","ladder","stride"] (Xac s_change_rows):=by walk_at "S"
def sp_change_rows:DIO:=λts ds P=>∃(α:Type) (z:α) (g:α->D) (op:List α->List α) (x:Str) (sp:DSp) (lad:D) (h w st:Nat) (e:Nat->Nat->α),ts=shT g h w e/\ds=[.fn x,lad,.int st]/\(x,sp)∈fnTb/\OpOk α z g op w st lad sp/\0<st/\st<=64/\h<=1000/\P (shT g h w (rowF z op w st e))
theorem lf_row {α:Type}{g:α->D}(hg:∀x,(g x).lf=true)(xs:List α):OV.lf (.nl (xs.map λx=>.fz (g x)))=true:=by
 simp[OV.lf,OV.lfs_eq,hg]
theorem step_lt {h st:Nat}(s0:0<st){n:Nat}(hn:n<rngN 0 h st):n*st<h:=by
 have:=(rngN_lt (by lia) n).mp hn
 rw[Int.zero_add]at this
 exact_mod_cast this
theorem step_all {h st i:Nat}(s0:0<st)(hi:i<h)(hm:i%st=0):i<rngN 0 h st*st:=by
 rcases Nat.lt_or_ge i (rngN 0 h st*st) with q |q
 .exact q
 .exfalso
  have h1:rngN 0 h st<=i / st:=by
   rw[Nat.le_div_iff_mul_le s0];exact q
  have h2:¬ (rngN 0 h st<rngN 0 h st):=Nat.lt_irrefl _
  apply h2
  rw[rngN_lt (by lia)]
  have h4:rngN 0 h st*st<h:=by lia
  have:((rngN 0 h st*st:Nat):Int)<h:=by exact_mod_cast h4
  rw[Int.zero_add]
  exact_mod_cast this
theorem rngN_le {h st:Nat}(s0:0<st):rngN 0 h st<=h:=by
 rcases Nat.lt_or_ge h (rngN 0 h st) with q |q
 .have:=step_lt s0 q
  have h2:h*1<=h*st:=Nat.mul_le_mul_left _ s0
  lia
 .exact q
theorem ok_change_rows {f:Addr}{fd:FuncData}(Df:DefAt K mg "change_rows" s_change_rows f fd)(B:BltV mg)(KV:KitV K)(n_raised:NsOf K mg "raised")(n_lowered_spans:NsOf K mg "lowered_spans")(c_raised:Cal P w K mg base "raised" 3 ["row","ladder","stride"] (spV K 3 sp_raised))(c_lowered_spans:Cal P w K mg base "lowered_spans" 3 ["row","ladder","stride"] (spV K 3 sp_lowered_spans)):
  Cal P w K mg base "change_rows" 4 ["sheet","doing","ladder","stride"] (spIO K 4 sp_change_rows):=by
 refine CalIO.of Df sc_change_rows (by walk_at "b") rfl (λc A o s H E hr=>⟨_,_,(Xai (ps_for PassesOwn.never rfl (pi_range3 (by rfl) (by exact B.range) (Xaa Xal (Xaa (Xaw Xa3 (by rfl) B.len PySem.boot_len (Xaa (pv 0) Xae)) (Xaa (pv 3) Xae)))) (Xa6 (i:=4) sc_change_rows.nd rfl (Or.inl rfl)) (Xai (ps_asg (pe_calL (pv 1) (tbV_all (K:=K) (n:=3) (tb:=fnTb) (k:=3) (by simp only[fnTb,List.forall_mem_cons];exact⟨⟨_,c_raised.mono (by decide)⟩,⟨_,c_lowered_spans.mono (by decide)⟩,λ_ h=>by cases h⟩)) (hr.mono (by decide)) (Xaa (Xaz ix_list (pv 0) (pv 4) (λ_ _=>rfl)) (Xaa (pv 2) (Xaa (pv 3) Xae)))) (pg_sub (pv 0) (pv 4) set_list))))),
  (sS_for (sI_rng3 (Xaj (Xaq Xag) (Xaj (Xaq (sF_cb cS_len (Xaj Xad Xap))) (Xaj Xad Xap)))) sG_name (sS_tag (i:=0) loc_put (sS_put (sO_callLB (tb:=fnTb) (by simp only[fnTb,List.forall_mem_cons];exact⟨n_raised,n_lowered_spans,λ_ h=>by cases h⟩) (Xaj (sB_op (OpF.b oF_ixL) Xad Xad) (Xaj Xad (Xaj Xad Xap)))) Xad))),?_⟩)
 rintro a ts ds Pr ⟨α,z,g,op,x,sp,lad,h,w,st,e,rfl,rfl,hm,ok,s0,s1,hh,k⟩
 fin2
 refine⟨⟨by lia,by rw[shT,tab_len];lia,by lia,by lia⟩,?_⟩
 rw[show ((shT g h w e).length:Int)=(h:Int) by rw[shT,tab_len]]
 refine⟨λn δ=>n<=rngN 0 h st/\∃o,δ=[some (.own (.rt a (shT g h w λi j=>if i%st=0/\i<n*st then (op (tab w (e i))).getD j z else e i j))),vD (.fn x),vD lad,vI st,o],⟨Nat.zero_le _,none,?_⟩,?_,?_⟩
 .simp only[Nat.zero_mul,Nat.not_lt_zero,and_false,if_false]
 .rintro n d δ hd ⟨hn,o,rfl⟩
  obtain⟨hi,rfl⟩:=rng_inv hd
  have hlt:=step_lt s0 hi
  have hnat:(0+(n:Int)*(st:Int))=((n*st:Nat):Int):=by rw[Int.zero_add];exact_mod_cast rfl
  rw[hnat]
  fin2
  refine⟨sp,hm,?_⟩
  rw[shT_val]
  refine⟨_,atI_tab (by lia) (by exact_mod_cast hlt),?_⟩
  rw[show ((n*st:Nat):Int).toNat=n*st by lia]
  have er:(D.lst (tab w λj=>g (if (n*st)%st=0/\n*st<n*st then (op (tab w (e (n*st)))).getD j z else e (n*st) j))) = .lst ((tab w (e (n*st))).map g):=by
   rw[tab_map]
   simp only[Nat.lt_irrefl,and_false,if_false]
  rw[er]
  try fin2
  refine ok.run _ tab_len _ ?_
  refine⟨lf_row ok.lf _,n*st,?_,?_⟩
  .rw [shT,tab_len]
   have:=ixN_in (n:=h) (i:=((n*st:Nat):Int)) (by lia) (by exact_mod_cast hlt)
   rwa[show ((n*st:Nat):Int).toNat=n*st by lia]at this
  .try fin2
   refine⟨hi,some (.own (.fz (.int ((n*st:Nat):Int)))),?_⟩
   have es : (shT g h w λi j=>if i%st=0/\i<n*st then (op (tab w (e i))).getD j z else e i j).set (n*st) (.nl ((op (tab w (e (n*st)))).map λx=>.fz (g x)))=shT g h w λi j=>if i%st=0/\i<(n+1)*st then (op (tab w (e i))).getD j z else e i j:=by
    unfold shT
    rw[tab_set]
    refine tab_ext λi hi'=>?_
    by_cases q:i=n*st
    .subst q
     rw[if_pos rfl]
     have e1:∀j,(if (n*st)%st=0/\n*st<(n+1)*st then (op (tab w (e (n*st)))).getD j z else e (n*st) j)=(op (tab w (e (n*st)))).getD j z:=λj=>if_pos ⟨Nat.mul_mod_left _ _,by rw[Nat.add_mul];lia⟩
     simp only[e1]
     congr 1
     rw[<- tab_map (f:=λj=>(op (tab w (e (n*st)))).getD j z) (g:=λx=>OV.fz (g x)),tab_selfn z (ok.len _ tab_len)]
    .rw [if_neg q]
     congr 1
     refine tab_ext λj _=>?_
     have:(i%st=0/\i<n*st)↔(i%st=0/\i<(n+1)*st):=by
      constructor
      .rintro ⟨q1,q2⟩
       exact⟨q1,by rw[Nat.add_mul];lia⟩
      .rintro ⟨q1,q2⟩
       refine⟨q1,?_⟩
       have e2:i=i / st*st:=by
        have:=Nat.div_add_mod i st
        rw[q1,Nat.add_zero,Nat.mul_comm]at this
        exact this.symm
       have e3:i / st<n+1:=by rw[Nat.div_lt_iff_lt_mul s0];exact q2
       rcases Nat.lt_or_ge (i / st) n with y |y
       .have:(i / st+1)*st<=n*st:=Nat.mul_le_mul_right _ y
        rw[Nat.add_mul]at this
        lia
       .have:i / st=n:=by lia
        rw[this]at e2
        exact absurd e2 q
     dsimp only
     by_cases y:i%st=0/\i<n*st
     .rw [if_pos y,if_pos (this.mp y)]
     .rw [if_neg y,if_neg λy'=>y (this.mpr y')]
   rw[es]
 .rintro δ ⟨_,o,rfl⟩
  rw[rng_len]
  refine⟨_,rfl,?_⟩
  rw[shT_ext (e':=rowF z op w st e)]
  .exact k
  .intro i j hi hj
   show (if i%st=0/\i<rngN 0 h st*st then _ else _)=if i%st=0 then _ else _
   by_cases q:i%st=0
   .rw [if_pos ⟨q,step_all s0 hi q⟩,if_pos q]
   .rw [if_neg λy=>q y.1,if_neg q]
abbrev s_change_columns:Stmt:=top 39
theorem sc_change_columns:FnScope ["sheet","doing","ladder","stride","j","column","i"] ["sheet","doing","ladder","stride"] (Xac s_change_columns):=by walk_at "S"
def sp_change_columns:DIO:=λts ds P=>∃(α:Type) (z:α) (g:α->D) (op:List α->List α) (x:Str) (sp:DSp) (lad:D) (h w st:Nat) (e:Nat->Nat->α),ts=shT g h w e/\ds=[.fn x,lad,.int st]/\(x,sp)∈fnTb/\OpOk α z g op h st lad sp/\0<st/\st<=64/\0<h/\h<=1000/\w<=1000/\P (shT g h w (colF z op h st e))
theorem mod_lt_succ {i st n:Nat}(s0:0<st)(q1:i%st=0)(hne:i≠n*st):i<n*st↔i<(n+1)*st:=by
 constructor
 .intro y
  rw[Nat.add_mul];lia
 .intro q2
  have e2:i=i / st*st:=by
   have:=Nat.div_add_mod i st
   rw[q1,Nat.add_zero,Nat.mul_comm]at this
   exact this.symm
  have e3:i / st<n+1:=by rw[Nat.div_lt_iff_lt_mul s0];exact q2
  rcases Nat.lt_or_ge (i / st) n with y |y
  .have:(i / st+1)*st<=n*st:=Nat.mul_le_mul_right _ y
   rw[Nat.add_mul]at this
   lia
  .have:i / st=n:=by lia
   rw[this]at e2
   exact absurd e2 hne
theorem ok_change_columns {f:Addr}{fd:FuncData}(Df:DefAt K mg "change_columns" s_change_columns f fd)(B:BltV mg)(KV:KitV K)(n_raised:NsOf K mg "raised")(n_lowered_spans:NsOf K mg "lowered_spans")(c_raised:Cal P w K mg base "raised" 3 ["row","ladder","stride"] (spV K 3 sp_raised))(c_lowered_spans:Cal P w K mg base "lowered_spans" 3 ["row","ladder","stride"] (spV K 3 sp_lowered_spans)):
  Cal P w K mg base "change_columns" 4 ["sheet","doing","ladder","stride"] (spIO K 4 sp_change_columns):=by
 refine CalIO.of Df sc_change_columns (by walk_at "b") rfl (λc A o s H E hr=>⟨_,_,(Xai (ps_for PassesOwn.never rfl (pi_range3 (by rfl) (by exact B.range) (Xaa Xal (Xaa (Xaw Xa3 (by rfl) B.len PySem.boot_len (Xaa (Xaz ix_list (pv 0) Xal (λ_ _=>rfl)) Xae)) (Xaa (pv 3) Xae)))) (Xa6 (i:=4) sc_change_columns.nd rfl (Or.inr rfl)) (Xah (ps_set (i:=5) sc_change_columns.nd rfl (Or.inl rfl) (pe_calL (pv 1) (tbV_all (K:=K) (n:=3) (tb:=fnTb) (k:=3) (by simp only[fnTb,List.forall_mem_cons];exact⟨⟨_,c_raised.mono (by decide)⟩,⟨_,c_lowered_spans.mono (by decide)⟩,λ_ h=>by cases h⟩)) (hr.mono (by decide)) (Xaa (pe_comp rfl (pi_list (pv 0)) (show BlkScope (Xac s_change_columns) _ from⟨rfl,by decide +kernel,by decide +kernel,by decide +kernel⟩) (N:=["row","j"]) (ix:=[none,some 4]) (show CapOf _ _ _ _ from⟨⟨rfl,rfl,.inl rfl⟩,trivial⟩) (λ_ _ _=>(Xa6 (i:=0) (show List.Nodup (["row","j"]:List Str) by decide +kernel) rfl (Or.inl rfl))) (λ_ _ _=>(Xaz ix_list (pv 0) (pv 1) (λ_ _=>rfl)))) (Xaa (pv 2) (Xaa (pv 3) Xae)))))
   (Xai (ps_for PassesOwn.never rfl (pi_range3 (by rfl) (by exact B.range) (Xaa Xal (Xaa (Xaw Xa3 (by rfl) B.len PySem.boot_len (Xaa (pv 0) Xae)) (Xaa (pv 3) Xae)))) (Xa6 (i:=6) sc_change_columns.nd rfl (Or.inl rfl)) (Xai (ps_asg (Xaz ix_list (pv 5) (pv 6) (λ_ _=>rfl)) (pg_sub (Xaz ix_list (pv 0) (pv 6) (λ_ _=>rfl)) (pv 4) set_list)))))))),
  (sS_for (sI_rng3 (Xaj (Xaq Xag) (Xaj (Xaq (sF_cb cS_len (Xaj (sB_op (OpF.b oF_ixL) Xad (Xaq Xag)) Xap))) (Xaj Xad Xap)))) sG_name (Xan (sS_set (sO_f (sF_o (sO_callL (tb:=fnTb) (by simp only[fnTb,List.forall_mem_cons];exact⟨n_raised,n_lowered_spans,λ_ h=>by cases h⟩) (Xab (sF_o (sO_compB Xad (sO_f (sF_lf (sB_op (OpF.b oF_ixL) Xad Xad))))) (Xab Xaf (Xab Xaf Xak)))))))
   (sS_for (sI_rng3 (Xaj (Xaq Xag) (Xaj (Xaq (sF_cb cS_len (Xaj Xad Xap))) (Xaj Xad Xap)))) sG_name (sS_tag (i:=0) loc_put (sS_put2 (sF_opF oF_ixL Xaf Xaf) Xad Xad))))),?_⟩)
 rintro a ts ds Pr ⟨α,z,g,op,x,sp,lad,h,w,st,e,rfl,rfl,hm,ok,s0,s1,h0,hh,hw,k⟩
 fin2
 rw[shT_val]
 refine⟨_,atI_tab (by lia) (by lia),?_⟩
 fin2
 rw[tab_len]
 refine⟨⟨by lia,by lia,by lia,by lia⟩,?_⟩
 refine⟨λn δ=>n<=rngN 0 w st/\∃o1 o2 o3,δ=[some (.own (.rt a (shT g h w λi j=>if j%st=0/\j<n*st then (op (tab h λi=>e i j)).getD i z else e i j))),vD (.fn x),vD lad,vI st,o1,o2,o3],⟨Nat.zero_le _,none,none,none,?_⟩,?_,?_⟩
 .simp only[Nat.zero_mul,Nat.not_lt_zero,and_false,if_false]
 .rintro n d δ hd ⟨hn,o1,o2,o3,rfl⟩
  obtain⟨hi,rfl⟩:=rng_inv hd
  have hlt:=step_lt s0 hi
  have hnat:(0+(n:Int)*(st:Int))=((n*st:Nat):Int):=by rw[Int.zero_add];exact_mod_cast rfl
  rw[hnat]
  generalize hj:n*st=j at hlt
  fin2
  refine⟨sp,hm,?_⟩
  rw[shT_val]
  refine CmpW.mapB (List.range h) _ (λi=>.fz (g (e i j))) (by rw[List.length_range];lia) (λi hi' Q q=>?_) ?_
  .have hi'':=List.mem_range.mp hi'
   fin2
   refine⟨_,atI_tab (by lia) (by exact_mod_cast hlt),?_⟩
   rw[show ((j:Nat):Int).toNat=j by lia,if_neg λy=>by lia]
   exact⟨ok.lf _,q⟩
  .have e1 : (List.range h).map (λi=>OV.fz (g (e i j)))=(tab h λi=>e i j).map λx=>OV.fz (g x):=by rw[tab_map];rfl
   rw[e1]
   fin2
   simp only[val_fzG]
   refine ok.run _ tab_len _ ?_
   generalize hcc:tab h (λi=>e i j)=c
   have hcl:c.length=h:=by rw[<- hcc];exact tab_len
   have hol:=ok.len c hcl
   fin2
   simp only[val_fzG]
   refine⟨⟨by lia,by rw[shT,tab_len];lia,by lia,by lia⟩,?_⟩
   rw[show ((shT g h w λi j'=>if j'%st=0/\j'<j then (op (tab h λi=>e i j')).getD i z else e i j').length:Int)=(h:Int) by rw[shT,tab_len]]
   refine⟨λm δ=>∃o3,δ=[some (.own (.rt a (shT g h w λi j'=>if j'=j/\i%st=0/\i<m*st then (op c).getD i z else if j'%st=0/\j'<j then (op (tab h λi=>e i j')).getD i z else e i j'))),vD (.fn x),vD lad,vI st,vI j,vD (.lst ((op c).map g)),o3],⟨o3,?_⟩,?_,?_⟩
   .simp only[Nat.zero_mul,Nat.not_lt_zero,and_false,if_false]
   .rintro m d δ hd' ⟨p3,rfl⟩
    obtain⟨hm',rfl⟩:=rng_inv hd'
    have hlt':=step_lt s0 hm'
    have hnat':(0+(m:Int)*(st:Int))=((m*st:Nat):Int):=by rw[Int.zero_add];exact_mod_cast rfl
    rw[hnat']
    generalize hi0:m*st=i at hlt'
    fin2
    refine⟨_,atI_map z (by lia) (by rw[hol];exact_mod_cast hlt'),?_⟩
    rw[show ((i:Nat):Int).toNat=i by lia]
    refine⟨i,_,?_,tab_get hlt',j,?_,?_⟩
    .rw [shT,tab_len]
     have:=ixN_in (n:=h) (i:=((i:Nat):Int)) (by lia) (by exact_mod_cast hlt')
     rwa[show ((i:Nat):Int).toNat=i by lia]at this
    .rw [tab_len]
     have:=ixN_in (n:=w) (i:=((j:Nat):Int)) (by lia) (by exact_mod_cast hlt)
     rwa[show ((j:Nat):Int).toNat=j by lia]at this
    .try fin2
     refine⟨vI ((i:Nat):Int),?_⟩
     have es:(shT g h w λi j'=>if j'=j/\i%st=0/\i<m*st then (op c).getD i z else if j'%st=0/\j'<j then (op (tab h λi=>e i j')).getD i z else e i j').set i (.nl ((tab w λj'=>OV.fz (g (if j'=j/\i%st=0/\i<m*st then (op c).getD i z else if j'%st=0/\j'<j then (op (tab h λi=>e i j')).getD i z else e i j'))).set j (.fz (g ((op c).getD i z))))) =
       shT g h w λi j'=>if j'=j/\i%st=0/\i<(m+1)*st then (op c).getD i z else if j'%st=0/\j'<j then (op (tab h λi=>e i j')).getD i z else e i j':=by
      unfold shT
      rw[tab_set]
      refine tab_ext λi' hi'=>?_
      by_cases q:i'=i
      .subst q
       rw[if_pos rfl,tab_set]
       congr 1
       refine tab_ext λj' hj'=>?_
       dsimp only
       by_cases y:j'=j
       .subst y
        rw[if_pos rfl,if_pos ⟨rfl,by rw[<- hi0];exact Nat.mul_mod_left _ _,by rw[<- hi0,Nat.add_mul];lia⟩]
       .simp only[y,false_and,if_false]
      .rw [if_neg q]
       congr 1
       refine tab_ext λj' hj'=>?_
       dsimp only
       by_cases y:j'=j/\i'%st=0
       .have hne:i'≠m*st:=by rw[hi0];exact q
        have:=mod_lt_succ (n:=m) s0 y.2 hne
        by_cases y2:i'<m*st
        .rw [if_pos ⟨y.1,y.2,y2⟩,if_pos ⟨y.1,y.2,this.mp y2⟩]
        .rw [if_neg (show ¬ (j'=j/\i'%st=0/\i'<m*st) from λy'=>y2 y'.2.2),if_neg (show ¬ (j'=j/\i'%st=0/\i'<(m+1)*st) from λy'=>y2 (this.mpr y'.2.2))]
       .rw [if_neg (show ¬ (j'=j/\i'%st=0/\i'<m*st) from λy'=>y ⟨y'.1,y'.2.1⟩),if_neg (show ¬ (j'=j/\i'%st=0/\i'<(m+1)*st) from λy'=>y ⟨y'.1,y'.2.1⟩)]
     simp only[hi0]at es
     rw[es]
   .rintro δ ⟨p3,rfl⟩
    rw[rng_len]
    refine⟨hi,vI j,vD (.lst ((op c).map g)),p3,?_⟩
    rw[shT_ext (e':=λi j=>if j%st=0/\j<(n+1)*st then (op (tab h λi=>e i j)).getD i z else e i j)]
    intro i j' hi' hj'
    dsimp only
    by_cases y:j'=j
    .subst y
     rw[hcc,if_pos (show j'%st=0/\j'<(n+1)*st from⟨by rw[<- hj];exact Nat.mul_mod_left _ _,by rw[<- hj,Nat.add_mul];lia⟩)]
     by_cases q:i%st=0
     .rw [if_pos ⟨rfl,q,step_all s0 hi' q⟩]
     .rw [if_neg λy'=>q y'.2.1,if_neg (show ¬ (j'%st=0/\j'<j') from λy'=>by lia),ok.off c i hcl hi' q,<- hcc,tab_getD hi']
    .rw [if_neg λy'=>y y'.1]
     by_cases q:j'%st=0
     .have hne:j'≠n*st:=by rw[hj];exact y
      have:=mod_lt_succ (n:=n) s0 q hne
      rw[hj]at this
      by_cases y2:j'<j
      .rw [if_pos ⟨q,y2⟩,if_pos ⟨q,this.mp y2⟩]
      .rw [if_neg λy'=>y2 y'.2,if_neg λy'=>y2 (this.mpr y'.2)]
     .rw [if_neg λy'=>q y'.1,if_neg λy'=>q y'.1]
 .rintro δ ⟨_,o1,o2,o3,rfl⟩
  rw[rng_len]
  refine⟨_,rfl,?_⟩
  rw[shT_ext (e':=colF z op h st e)]
  .exact k
  .intro i j hi hj
   show (if j%st=0/\j<rngN 0 w st*st then _ else _)=if j%st=0 then _ else _
   by_cases q:j%st=0
   .rw [if_pos ⟨q,step_all s0 hj q⟩,if_pos q]
   .rw [if_neg λy=>q y.1,if_neg q]
theorem sR_cnt (h st:Nat)(s0:0<st):sliceRange 0 h st=(List.range (rngN 0 h st)).map λk=>k*st:=by
 unfold sliceRange rngN Builtin.Range.rangeSize
 have hs:(st:Int) > 0:=by lia
 simp only[hs,if_true]
 by_cases hh:(0:Int)<h
 .simp only[hh,if_true]
  have e:((h:Int)-0+st-1) / st=((h:Int)-0-1) / st+1:=by
   rw[show (h:Int)-0+st-1=((h:Int)-0-1)+1*st by lia,Int.add_mul_ediv_right _ _ (by lia)]
  rw[e]
  refine List.map_congr_left λk _=>?_
  rw[Int.zero_add,Int.mul_comm]
  exact_mod_cast rfl
 .simp only[hh,if_false]
  rfl
theorem fm_some {α β:Type}{f:α->Option β}{g:α->β}:∀{js:List α},(∀j∈js,f j=some (g j))->js.filterMap f=js.map g
 | [],_=>rfl
 |j::js,h=>by
  rw[List.filterMap_cons_some (h j List.mem_cons_self),fm_some λk hk=>h k (List.mem_cons_of_mem _ hk),List.map_cons]
theorem stepG_tab {β:Type}{h st:Nat}{f:Nat->β}(s0:0<st):stepG (tab h f) st=tab (rngN 0 h st) λk=>f (k*st):=by
 unfold stepG
 rw[tab_len,sR_cnt h st s0]
 rw[List.filterMap_map]
 refine fm_some λk hk=>?_
 exact tab_get (step_lt s0 (List.mem_range.mp hk))
theorem rngN_one {h:Nat}:rngN 0 h (1:Nat)=h:=nat_eq_of_lt λi=>by
 rw[rngN_lt (by decide)]
 simp
abbrev s_thinned:Stmt:=top 43
theorem sc_thinned:FnScope ["sheet","k"] ["sheet","k"] (Xac s_thinned):=by walk_at "S"
def sp_thinned:DSp:=λds P=>∃(α:Type) (g:α->D) (h w k:Nat) (e:Nat->Nat->α),ds=[.lst (shV g h w e),.int k]/\k<=6/\h<=1000/\w<=1000/\P (.nl (shT g (rngN 0 h (2^k:Nat)) (rngN 0 w (2^k:Nat)) λi j=>e (i*2^k) (j*2^k)))
theorem ok_thinned {f:Addr}{fd:FuncData}(Df:DefAt K mg "thinned" s_thinned f fd)(B:BltV mg)(KV:KitV K):
  Cal P w K mg base "thinned" 1 ["sheet","k"] (spV K 2 sp_thinned):=by
 refine CalV.of Df sc_thinned (by walk_at "b") rfl (λc A o s H E hr=>⟨_,_,(Xai (Xas (pe_comp rfl (pi_list (pe_step (pv 0) (Xay op_shl Xal (pv 1)))) (show BlkScope (Xac s_thinned) _ from⟨rfl,by decide +kernel,by decide +kernel,by decide +kernel⟩) (N:=["row","k"]) (ix:=[none,some 1]) (show CapOf _ _ _ _ from⟨⟨rfl,rfl,.inl rfl⟩,trivial⟩) (λ_ _ _=>(Xa6 (i:=0) (show List.Nodup (["row","k"]:List Str) by decide +kernel) rfl (Or.inl rfl))) (λ_ _ _=>(pe_step (pv 0) (Xay op_shl Xal (pv 1))))))),
  (Xa1 (sO_comp (sI_list (sF_o (sO_slSt Xaf (Xaq (Xao oS_i (Xaq Xag) Xad))))) sG_name (sO_slSt Xaf (Xaq (Xao oS_i (Xaq Xag) Xad))))),?_⟩)
 rintro ds Pr ⟨α,g,h,w,k,e,rfl,k6,hh,hw,q⟩
 have hp:(1:Int)*2^((k:Int)).toNat=((2^k:Nat):Int):=by simp
 have hp0:0<2^k:=Nat.pow_pos (by decide)
 fin2
 rw[hp]
 refine⟨⟨by lia,by lia⟩,by exact_mod_cast hp0,?_⟩
 simp only[shV]
 rw[stepG_tab hp0]
 simp only[tab_map,OV.val]
 have hle:=rngN_le (h:=h) hp0
 refine CmpW.map (List.range (rngN 0 h (2^k:Nat))) (λi=>D.lst (tab w λj=>g (e (i*2^k) j))) (λi=>.nl (tab (rngN 0 w (2^k:Nat)) λj=>.fz (g (e (i*2^k) (j*2^k))))) (by rw[List.length_range];lia) (λi hi Q q=>?_) ?_
 .fin2
  rw[hp]
  refine⟨⟨by lia,by lia⟩,by exact_mod_cast hp0,?_⟩
  rw[stepG_tab hp0,tab_map]
  exact q
 .exact q
theorem gLift_off {α:Type}{z:α}{G:α->α->α->α}{h:Int}{st:Nat}{xs:List α}{p:Nat}(s0:0<st)(hh:h=0∨h=1)(hp:p%st≠0):(gLift z G h st xs).getD p z=xs.getD p z:=by
 rw[(g_all (z:=z) (G:=G) (h:=h) (st:=(st:Int)) (xs:=xs) (by lia) hh).2 p,if_neg]
 intro hm
 obtain⟨_,_,i,hi⟩:=(plc_mem (show (0:Int)<st by lia)).mp hm
 apply hp
 rcases hh with rfl |rfl
 .have:p=i*2*st:=by
   have e:(p:Int)=((i*2*st:Nat):Int):=by rw[hi,Int.zero_mul,Int.zero_add,<- Int.mul_assoc];exact_mod_cast rfl
   exact_mod_cast e
  rw[this];exact Nat.mul_mod_left _ _
 .have:p=(1+i*2)*st:=by
   have e:(p:Int)=(((1+i*2)*st:Nat):Int):=by rw[hi,<- Int.mul_assoc,<- Int.add_mul];exact_mod_cast rfl
   exact_mod_cast e
  rw[this];exact Nat.mul_mod_left _ _
theorem gFold_off {α:Type}{z:α}{G:Lf->α->α->α->α}{st:Nat}{p:Nat}(s0:0<st)(hp:p%st≠0):∀(gs:List Lf) (xs:List α),(∀f∈gs,f.Ok)->(gs.foldl (λxs f=>gLift z (G f) f.h st xs) xs).getD p z=xs.getD p z
 | [],_,_=>rfl
 |f::gs,xs,ok=>by
  rw[List.foldl_cons,gFold_off s0 hp gs _ λg hg=>ok g (List.mem_cons_of_mem _ hg)]
  exact gLift_off s0 (ok f List.mem_cons_self).h hp
theorem pow64 {k:Nat}(h:k<=6):0<2^k/\2^k<=64:=⟨Nat.pow_pos (by decide),Nat.le_trans (Nat.pow_le_pow_right (by decide) h) (by decide)⟩
theorem shT_one {α:Type}{g:α->D}{h w:Nat}{e:Nat->Nat->α}:shT g (rngN 0 h (2^0:Nat)) (rngN 0 w (2^0:Nat)) (λi j=>e (i*2^0) (j*2^0))=shT g h w e:=by
 rw[show (2^0:Nat)=1 by decide,rngN_one,rngN_one]
 simp only[Nat.mul_one]
theorem raise_g {fs:List Lf}{st:Int}{xs:List Int}:raiseF fs st xs=fs.foldl (λxs f=>gLift 0 ((λ(f:Lf) x l r=>x+1*gainF f l r) f) f.h st xs) xs:=rfl
theorem raised_ok {fs:List Lf}{st n:Nat}(ok:∀f∈fs,f.Ok)(s0:0<st)(s1:st<=64)(hn:n<=1000):OpOk Int 0 D.int (raiseF fs st) n st (ladD fs) sp_raised where
 run:=λr hr Q q=>⟨r,fs,st,rfl,⟨ok,by lia,by lia,by lia⟩,q⟩
 len:=λr hr=>by rw[raise_g,gFold_len];exact hr
 off:=λr i hr hi hm=>gFold_off (z:=(0:Int)) (G:=λf x l r=>x+1*gainF f l r) s0 hm fs r ok
 lf:=λx=>rfl
theorem openF_low {α:Type}{z:α}{op:Nat->List α->List α}{h w:Nat}{e:Nat->Nat->α}:∀{n d:Nat},n<=d->openF z op h w n d e=e
 | 0,_,_=>rfl
 |n+1,d,hd=>by
  show (if d<=n then _ else e)=e
  rw[if_neg (by lia)]
abbrev s_opened_by:Stmt:=top 41
theorem sc_opened_by:FnScope ["lowering","wave","ladder","levels","down","sheet","k"] ["lowering","wave","ladder","levels","down"] (Xac s_opened_by):=by walk_at "S"
def sp_opened_by:DSp:=λds P=>∃(α:Type) (z:α) (g:α->D) (op:Nat->List α->List α) (x:Str) (sp:DSp) (lad:D) (h w L d:Nat) (e:Nat->Nat->α),ds=[.fn x,.lst (shV g h w e),lad,.int L,.int d]/\(x,sp)∈fnTb/\(∀k,k<L->OpOk α z g (op k) w (2^k) lad sp/\OpOk α z g (op k) h (2^k) lad sp)/\L<=6/\d<=6/\0<h/\h<=1000/\w<=1000/\P (.nl (shT g h w (openF z op h w L d e)))
theorem ok_opened_by {f:Addr}{fd:FuncData}(Df:DefAt K mg "opened_by" s_opened_by f fd)(B:BltV mg)(KV:KitV K)(c_thinned:Cal P w K mg base "thinned" 1 ["sheet","k"] (spV K 2 sp_thinned))(c_change_columns:Cal P w K mg base "change_columns" 4 ["sheet","doing","ladder","stride"] (spIO K 4 sp_change_columns))(c_change_rows:Cal P w K mg base "change_rows" 4 ["sheet","doing","ladder","stride"] (spIO K 4 sp_change_rows)):
  Cal P w K mg base "opened_by" 5 ["lowering","wave","ladder","levels","down"] (spV K 5 sp_opened_by):=by
 refine CalV.of Df sc_opened_by (by walk_at "b") rfl (λc A o s H E hr=>⟨_,_,(Xah (ps_set (i:=5) sc_opened_by.nd rfl (Or.inl rfl) (Xav c_thinned (hr.mono (by decide)) (by rfl) (Xaa (pv 1) (Xaa Xal Xae))))
   (Xah (ps_for PassesOwn.never rfl (pi_rangeD rfl B.range (Xaa (Xay op_sub (pv 3) Xal) (Xaa (Xay op_sub (pv 4) Xal) (Xaa (pe_un un_neg Xal) Xae)))) (Xa6 (i:=6) sc_opened_by.nd rfl (Or.inl rfl)) (Xah (ps_expr (Xav c_change_columns (hr.mono (by decide)) (by rfl) (Xaa (pv 5) (Xaa (pv 0) (Xaa (pv 2) (Xaa (Xay op_shl Xal (pv 6)) Xae))))))
   (Xai (ps_expr (Xav c_change_rows (hr.mono (by decide)) (by rfl) (Xaa (pv 5) (Xaa (pv 0) (Xaa (pv 2) (Xaa (Xay op_shl Xal (pv 6)) Xae)))))))))
   (Xai (Xas (pv 5))))),
  (Xan (sS_set (Xar (Xab Xaf (Xab Xag Xak))))
   (Xan (sS_for (sI_rngD (Xaj (Xaq (Xao oS_i0 Xad (Xaq Xag))) (Xaj (Xaq (Xao oS_i0 Xad (Xaq Xag))) (Xaj (Xaq (sF_neg (Xaq Xag))) Xap)))) sG_name (Xan (sS_callIO (Xab Xaf (Xab Xaf (Xab (Xao oS_i (Xaq Xag) Xad) Xak))))
   (sS_callIO (Xab Xaf (Xab Xaf (Xab (Xao oS_i (Xaq Xag) Xad) Xak))))))
   sS_retV)),?_⟩)
 rintro ds Pr ⟨α,z,g,op,x,sp,lad,h,w,L,d,e,rfl,hm,ok,l6,d6,h0,hh,hw,k⟩
 gn_on
 refine⟨α,g,h,w,0,e,rfl,by lia,hh,hw,?_⟩
 rw[shT_one]
 gp_on
 fin2
 refine⟨⟨by lia,by lia,by lia,by lia⟩,?_⟩
 rw[show ((L:Int)-1-((d:Int)-1)).toNat=L-d by lia]
 refine⟨λn δ=>n<=L-d/\∃o e',δ=[vD (.fn x),vD (.lst (shV g h w e)),vD lad,vI L,vI d,some (.own (.nl (shT g h w e'))),o]/\openF z op h w (L-n) d e'=openF z op h w L d e,⟨Nat.zero_le _,none,e,rfl,rfl⟩,?_,?_⟩
 .rintro n d' δ hd ⟨hn,o,e',rfl,he⟩
  obtain⟨hi,rfl⟩:=rng_inv hd
  obtain⟨m,hm'⟩:∃m,L-n=m+1:=⟨L-n-1,by lia⟩
  have hmL:m<L:=by lia
  obtain⟨p0,p1⟩:=pow64 (show m<=6 by lia)
  have hk:(L:Int)-1+(n:Int) * -1=(m:Int):=by lia
  have hp:(1:Int)*2^((m:Int)).toNat=((2^m:Nat):Int):=by simp
  rw[hk]
  gn_on
  rw[hp]
  refine⟨⟨by omega,by lia⟩,α,z,g,op m,x,sp,lad,h,w,2^m,_,rfl,rfl,hm,(ok m hmL).2,p0,p1,h0,hh,hw,?_⟩
  gp_on
  fin2
  rw[hp]
  refine⟨⟨by omega,by lia⟩,α,z,g,op m,x,sp,lad,h,w,2^m,_,rfl,rfl,hm,(ok m hmL).1,p0,p1,hh,?_⟩
  refine⟨hi,_,_,rfl,?_⟩
  rw[<- he,hm',show L-(n+1)=m by omega]
  show _=if d<=m then _ else _
  rw[if_pos (by lia)]
 .rintro δ ⟨_,o,e',rfl,he⟩
  rw[rng_len]at he
  fin2
  rw[openF_low (by lia)]at he
  rw[he]
  exact k
def shI (h w:Nat)(e:Nat->Nat->Int):D:=.lst (shV D.int h w e)
abbrev s_laid:Stmt:=top 40
theorem sc_laid:FnScope ["picture","ladder","levels","sheet","k"] ["picture","ladder","levels"] (Xac s_laid):=by walk_at "S"
def sp_laid:DSp:=λds P=>∃(h w:Nat) (e:Nat->Nat->Int) (fs:List Lf) (L:Nat),ds=[shI h w e,ladD fs,.int L]/\(∀f∈fs,f.Ok)/\L<=6/\0<h/\h<=1000/\w<=1000/\P (.nl (shT D.int h w (layF 0 (λk=>raiseF fs (2^k:Nat)) h w L e)))
theorem ok_laid {f:Addr}{fd:FuncData}(Df:DefAt K mg "laid" s_laid f fd)(B:BltV mg)(KV:KitV K)(n_raised:NsOf K mg "raised")(c_thinned:Cal P w K mg base "thinned" 1 ["sheet","k"] (spV K 2 sp_thinned))(c_change_rows:Cal P w K mg base "change_rows" 4 ["sheet","doing","ladder","stride"] (spIO K 4 sp_change_rows))(c_change_columns:Cal P w K mg base "change_columns" 4 ["sheet","doing","ladder","stride"] (spIO K 4 sp_change_columns)):
  Cal P w K mg base "laid" 5 ["picture","ladder","levels"] (spV K 3 sp_laid):=by
 refine CalV.of Df sc_laid (by walk_at "b") rfl (λc A o s H E hr=>⟨_,_,(Xah (ps_set (i:=3) sc_laid.nd rfl (Or.inl rfl) (Xav c_thinned (hr.mono (by decide)) (by rfl) (Xaa (pv 0) (Xaa Xal Xae))))
   (Xah (ps_for PassesOwn.never rfl (pi_range1 (by rfl) (by exact B.range) (Xaa (pv 2) Xae)) (Xa6 (i:=4) sc_laid.nd rfl (Or.inl rfl)) (Xah (ps_expr (Xav c_change_rows (hr.mono (by decide)) (by rfl) (Xaa (pv 3) (Xaa (pe_fn (by rfl) n_raised) (Xaa (pv 1) (Xaa (Xay op_shl Xal (pv 4)) Xae))))))
   (Xai (ps_expr (Xav c_change_columns (hr.mono (by decide)) (by rfl) (Xaa (pv 3) (Xaa (pe_fn (by rfl) n_raised) (Xaa (pv 1) (Xaa (Xay op_shl Xal (pv 4)) Xae)))))))))
   (Xai (Xas (pv 3))))),
  (Xan (sS_set (Xar (Xab Xaf (Xab Xag Xak))))
   (Xan (sS_for (sI_rng1 (Xaj Xad Xap)) sG_name (Xan (sS_callIO (Xab (sF_fn n_raised) (Xab Xaf (Xab (Xao oS_i (Xaq Xag) Xad) Xak))))
   (sS_callIO (Xab (sF_fn n_raised) (Xab Xaf (Xab (Xao oS_i (Xaq Xag) Xad) Xak))))))
   sS_retV)),?_⟩)
 rintro ds Pr ⟨h,w,e,fs,L,rfl,ok,l6,h0,hh,hw,k⟩
 simp only[shI]
 gn_on
 refine⟨Int,D.int,h,w,0,e,rfl,by lia,hh,hw,?_⟩
 rw[shT_one]
 gp_on
 fin2
 refine⟨⟨by lia,by lia⟩,?_⟩
 refine⟨λn δ=>n<=L/\∃o,δ=[vD (shI h w e),vD (ladD fs),vI L,some (.own (.nl (shT D.int h w (layF 0 (λk=>raiseF fs (2^k:Nat)) h w n e)))),o],⟨Nat.zero_le _,none,rfl⟩,?_,?_⟩
 .rintro n d δ hd ⟨hn,o,rfl⟩
  obtain⟨hi,rfl⟩:=rng_inv hd
  have hnL:n<L:=by lia
  obtain⟨p0,p1⟩:=pow64 (show n<=6 by lia)
  have hp:(1:Int)*2^(0+(n:Int)*1).toNat=((2^n:Nat):Int):=by simp
  gn_on
  rw[hp]
  refine⟨⟨by (clear hw;lia),by (clear h0 hh hw;lia)⟩,Int,0,D.int,raiseF fs (2^n:Nat),"raised",sp_raised,ladD fs,h,w,2^n,_,rfl,rfl,by simp[fnTb],raised_ok ok p0 p1 hw,p0,p1,hh,?_⟩
  gp_on
  fin2
  rw[hp]
  refine⟨⟨by (clear hw;lia),by (clear h0 hh hw;lia)⟩,Int,0,D.int,raiseF fs (2^n:Nat),"raised",sp_raised,ladD fs,h,w,2^n,_,rfl,rfl,by simp[fnTb],raised_ok ok p0 p1 hh,p0,p1,h0,hh,hw,?_⟩
  exact⟨hnL,_,rfl⟩
 .rintro δ ⟨_,o,rfl⟩
  rw[rng_len,show ((L:Int)).toNat=L by lia]
  exact k
theorem spans_ok {fs:List Lf}{st n:Nat}(ok:∀f∈fs,f.Ok)(s0:0<st)(s1:st<=64)(hn:n<=1000):OpOk Sp2 (0,0) spD (gLower (0,0) sDown fs st) n st (ladD fs) sp_lowered_spans where
 run:=λr hr Q q=>⟨r,fs,st,rfl,⟨ok,by lia,by lia,by lia⟩,q⟩
 len:=λr hr=>by rw[gLower_len];exact hr
 off:=λr i hr hi hm=>gFold_off (z:=((0,0):Sp2)) (G:=sDown) s0 hm fs.reverse r λf hf=>ok f (List.mem_reverse.mp hf)
 lf:=λx=>lf_spD
abbrev s_opened_spans:Stmt:=top 42
theorem sc_opened_spans:FnScope ["sheet","ladder","levels","down"] ["sheet","ladder","levels","down"] (Xac s_opened_spans):=by walk_at "S"
def sp_opened_spans:DSp:=λds P=>∃(h w:Nat) (e:Nat->Nat->Sp2) (fs:List Lf) (L d:Nat),ds=[.lst (shV spD h w e),ladD fs,.int L,.int d]/\(∀f∈fs,f.Ok)/\L<=6/\d<=6/\0<h/\h<=1000/\w<=1000/\P (.nl (shT spD h w (openF (0,0) (λk=>gLower (0,0) sDown fs (2^k:Nat)) h w L d e)))
theorem ok_opened_spans {f:Addr}{fd:FuncData}{T:Addr}{tk0:Tok}(Df:DefAtD K mg "opened_spans" s_opened_spans f fd T #[.int 0 tk0])(B:BltV mg)(KV:KitV K)(n_lowered_spans:NsOf K mg "lowered_spans")(c_opened_by:Cal P w K mg base "opened_by" 5 ["lowering","wave","ladder","levels","down"] (spV K 5 sp_opened_by)):
  CalD P w K mg base "opened_spans" 6 ["sheet","ladder","levels","down"] (spV K 4 sp_opened_spans) [.int 0]:=by
 refine CalVD.of (ds:=[.int 0 tk0]) Df sc_opened_spans (λ_ _ _ _ _ _ us hl=>match us,hl with | [_,_,_,_],_=>⟨_,rfl,rfl⟩) (λ_ _ _ _ _ _ us hl=>by have hl':us.length=3:=(by simpa using hl);exact match us,hl' with | [_,_,_],_=>⟨_,rfl,rfl⟩) (.cons ⟨_,rfl⟩ (.nil)) rfl (λc A o s H E hr=>⟨_,_,(Xai (Xas (Xav c_opened_by (hr.mono (by decide)) (by rfl) (Xaa (pe_fn (by rfl) n_lowered_spans) (Xaa (pv 0) (Xaa (pv 1) (Xaa (pv 2) (Xaa (pv 3) Xae)))))))),
  (Xa1 (Xar (Xab (sF_fn n_lowered_spans) (Xab Xaf (Xab Xaf (Xab Xaf (Xab Xaf Xak))))))),?_⟩)
 rintro ds Pr ⟨h,w,e,fs,L,d,rfl,ok,l6,d6,h0,hh,hw,k⟩
 fin2
 refine⟨Sp2,(0,0),spD,λk=>gLower (0,0) sDown fs (2^k:Nat),"lowered_spans",sp_lowered_spans,ladD fs,h,w,L,d,e,rfl,by simp[fnTb],λk hk=>?_,l6,d6,h0,hh,hw,k⟩
 obtain⟨p0,p1⟩:=pow64 (show k<=6 by lia)
 exact⟨spans_ok ok p0 p1 hw,spans_ok ok p0 p1 hh⟩
theorem pow_le {a b:Nat}(h:a<=b):(2:Int)^a<=2^b:=by
 have:(2:Nat)^a<=2^b:=Nat.pow_le_pow_right (by decide) h
 exact_mod_cast this
theorem div_abs {q d:Int}(hd:1<=d){B:Int}(h1 : -B<=q)(h2:q<=B)(hB:0<=B) : -B<=q / d/\q / d<=B:=by
 constructor
 .rw [Int.le_ediv_iff_mul_le (by lia)]
  have:B*1<=B*d:=Int.mul_le_mul_of_nonneg_left hd hB
  rw[Int.neg_mul]
  lia
 .refine Int.ediv_le_of_le_mul (by lia) ?_
  have:B*1<=B*d:=Int.mul_le_mul_of_nonneg_left hd hB
  lia
theorem mul_abs {c x B:Int}(hc : -8<=c/\c<=8)(hx : -B<=x/\x<=B) : -(8*B)<=c*x/\c*x<=8*B:=by
 have hB:0<=B:=by lia
 rcases Int.le_total 0 c with h |h
 .have h1:c*x<=c*B:=Int.mul_le_mul_of_nonneg_left hx.2 h
  have h2:c*B<=8*B:=Int.mul_le_mul_of_nonneg_right hc.2 hB
  have h3:c*(-B)<=c*x:=Int.mul_le_mul_of_nonneg_left hx.1 h
  rw[Int.mul_neg]at h3
  exact⟨by lia,by lia⟩
 .have h1:(-c)*x<=(-c)*B:=Int.mul_le_mul_of_nonneg_left hx.2 (by lia)
  have h2:(-c)*B<=8*B:=Int.mul_le_mul_of_nonneg_right (by lia) hB
  have h3:(-c)*(-B)<=(-c)*x:=Int.mul_le_mul_of_nonneg_left hx.1 (by lia)
  rw[Int.mul_neg,Int.neg_mul,Int.neg_mul]at h3
  rw[Int.neg_mul,Int.neg_mul]at h1
  rw[Int.neg_mul]at h2
  exact⟨by lia,by lia⟩
theorem gain_bd {f:Lf}(ok:f.Ok){b:Nat}(hb:6<=b){x y:Int}(hx : -2^b<=x/\x<=2^b)(hy : -2^b<=y/\y<=2^b) : -(17*2^b)<=gainF f x y/\gainF f x y<=17*2^b:=by
 have h6:(64:Int)<=2^b:=pow_le hb
 have h1:=mul_abs ok.l hx
 have h2:=mul_abs ok.r hy
 have h3:=ok.a
 have hd:(1:Int)<=2^f.s.toNat:=pow_le (Nat.zero_le _)
 exact div_abs hd (by lia) (by lia) (by lia)
theorem lift_bd {f:Lf}(ok:f.Ok){b:Nat}(hb:6<=b){st:Int}(hs:0<st){xs:List Int}(h:∀p:Nat,-2^b<=xs.getD p 0/\xs.getD p 0<=2^b):∀p:Nat,-2^(b+5)<=(liftF 1 f st xs).getD p 0/\(liftF 1 f st xs).getD p 0<=2^(b+5):=λp=>by
 have e5:(2:Int)^(b+5)=32*2^b:=by rw[Int.pow_add,Int.mul_comm];rfl
 rw[(lift_all hs ok.h).2 p]
 have hp:=h p
 split
 .unfold thingF
  have hg:=gain_bd ok hb (h (nbL (p:Int) xs.length st).toNat) (h (nbR (p:Int) xs.length st).toNat)
  rw[Int.toNat_natCast]
  exact⟨by lia,by lia⟩
 .exact ⟨by lia,by lia⟩
theorem raise_bd {st:Int}(hs:0<st):∀{fs:List Lf} {b:Nat} {xs:List Int},(∀f∈fs,f.Ok)->6<=b->(∀p:Nat,-2^b<=xs.getD p 0/\xs.getD p 0<=2^b)->∀p:Nat,-2^(b+5*fs.length)<=(raiseF fs st xs).getD p 0/\(raiseF fs st xs).getD p 0<=2^(b+5*fs.length)
 | [],b,xs,_,_,h=>h
 |f::fs,b,xs,ok,hb,h=>by
  have:=raise_bd hs (fs:=fs) (b:=b+5) (xs:=liftF 1 f st xs) (λg hg=>ok g (by simp[hg])) (by lia) (lift_bd (ok f (by simp)) hb hs h)
  rw[List.length_cons,show b+5*(fs.length+1)=b+5+5*fs.length by lia]
  exact this
theorem tab_bd {b n:Nat}{f:Nat->Int}(h:∀i,-2^b<=f i/\f i<=2^b):∀p:Nat,-2^b<=(tab n f).getD p 0/\(tab n f).getD p 0<=2^b:=λp=>by
 have h0:(0:Int)<2^b:=Int.pow_pos (by decide)
 by_cases hp:p<n
 .rw [tab_getD hp];exact h p
 .rw [List.getD_eq_getElem?_getD,List.getElem?_eq_none (by rw[tab_len];lia)]
  exact⟨by show -2^b<=(0:Int);lia,by show (0:Int)<=2^b;lia⟩
theorem lay_bd {fs:List Lf}(ok:∀f∈fs,f.Ok){h w b:Nat}(hb:6<=b){e:Nat->Nat->Int}(he:∀i j,-2^b<=e i j/\e i j<=2^b):∀(L:Nat) (i j:Nat),-2^(b+10*fs.length*L)<=layF 0 (λk=>raiseF fs (2^k:Nat)) h w L e i j/\layF 0 (λk=>raiseF fs (2^k:Nat)) h w L e i j<=2^(b+10*fs.length*L)
 | 0,i,j=>he i j
 |L + 1,i,j=>by
  have ih:=lay_bd (h:=h) (w:=w) ok hb he L
  have hs:(0:Int)<((2^L:Nat):Int):=by have:=Nat.two_pow_pos L;lia
  have up:∀{a c:Nat} {x:Int},a<=c->(-2^a<=x/\x<=2^a)->-2^c<=x/\x<=2^c:=λhac hx=>by
   have:=pow_le hac
   exact⟨by (clear hb hs;lia),by (clear hb hs;lia)⟩
  have r1:∀i j,-2^(b+10*fs.length*L+5*fs.length)<=rowF 0 (raiseF fs (2^L:Nat)) w (2^L) (layF 0 (λk=>raiseF fs (2^k:Nat)) h w L e) i j/\rowF 0 (raiseF fs (2^L:Nat)) w (2^L) (layF 0 (λk=>raiseF fs (2^k:Nat)) h w L e) i j<=2^(b+10*fs.length*L+5*fs.length):=λi j=>by
   unfold rowF
   split
   .exact raise_bd hs ok (by lia) (tab_bd (ih i)) j
   .exact up (by lia) (ih i j)
  show -2^_<=colF 0 (raiseF fs (2^L:Nat)) h (2^L) _ i j/\colF 0 (raiseF fs (2^L:Nat)) h (2^L) _ i j<=_
  rw[show b+10*fs.length*(L+1)=b+10*fs.length*L+5*fs.length+5*fs.length by rw[Nat.mul_add];lia]
  unfold colF
  split
  .exact raise_bd hs ok (by lia) (tab_bd (λi=>r1 i j)) i
  .exact up (by lia) (r1 i j)
theorem pow_pos' (e:Nat):(0:Int)<2^e:=by
 have h1:0<(2:Nat)^e:=Nat.pow_pos (by decide)
 have h2:((2^e:Nat):Int)=(2:Int)^e:=rfl
 lia
theorem or_nn {i j:Int}(hi:0<=i)(hj:0<=j):Builtin.bitOr i j=((i.toNat|||j.toNat:Nat):Int):=by
 unfold Builtin.bitOr
 have e1:decide (0<=Builtin.bitNot i)=false:=decide_eq_false (by unfold Builtin.bitNot;lia)
 have e2:decide (0<=Builtin.bitNot j)=false:=decide_eq_false (by unfold Builtin.bitNot;lia)
 have e3:Builtin.bitNot (Builtin.bitNot i)=i:=by unfold Builtin.bitNot;lia
 have e4:Builtin.bitNot (Builtin.bitNot j)=j:=by unfold Builtin.bitNot;lia
 unfold Builtin.bitAnd
 rw[e1,e2]
 dsimp only
 rw[e3,e4]
 unfold Builtin.bitNot
 lia
theorem and1_nn (n:Nat):Builtin.bitAnd (n:Int) 1=((n%2:Nat):Int):=by
 unfold Builtin.bitAnd
 rw[decide_eq_true (show (0:Int)<=(n:Int) by lia),decide_eq_true (show (0:Int)<=1 by decide)]
 have e:(1:Int).toNat=1:=rfl
 rw[Int.toNat_natCast,e,Nat.and_one_is_mod]
theorem bit_zero {i j:Int}(hi:0<=i)(hj:0<=j)(L:Nat):Builtin.bitAnd (Builtin.bitOr i j / 2^L) 1=0↔i / 2^L%2=0/\j / 2^L%2=0:=by
 obtain⟨a,rfl⟩:=Int.eq_ofNat_of_zero_le hi
 obtain⟨b,rfl⟩:=Int.eq_ofNat_of_zero_le hj
 rw[or_nn hi hj]
 have e:((((a:Int).toNat|||(b:Int).toNat:Nat):Int) / 2^L)=(((a|||b) / 2^L:Nat):Int):=by
  simp
 rw[e,and1_nn]
 have t:(a|||b) / 2^L%2=0↔(a / 2^L%2=0/\b / 2^L%2=0):=by
  have h:=Nat.testBit_or a b L
  rw[Nat.testBit_eq_decide_div_mod_eq,Nat.testBit_eq_decide_div_mod_eq,Nat.testBit_eq_decide_div_mod_eq]at h
  have h':=(decide_eq_decide (p:=(a|||b) / 2^L%2=1) (q:=a / 2^L%2=1∨b / 2^L%2=1)).mp (by rw[h,Bool.decide_or])
  lia
 have c1:((a:Int) / 2^L%2=0)↔a / 2^L%2=0:=by
  have:((a:Int) / 2^L%2)=((a / 2^L%2:Nat):Int):=by simp
  clear hj e;lia
 have c2:((b:Int) / 2^L%2=0)↔b / 2^L%2=0:=by
  have:((b:Int) / 2^L%2)=((b / 2^L%2:Nat):Int):=by simp
  clear hi e;lia
 rw[c1,c2,<- t]
 lia
def lvl:Nat->Int->Int->Nat
 | 0,_,_=>0
 |n+1,i,j=>if i%2=0/\j%2=0 then 1+lvl n (i / 2) (j / 2) else 0
theorem lvl_le:∀(n:Nat) (i j:Int),lvl n i j<=n
 | 0,_,_=>Nat.le_refl _
 |n+1,i,j=>by
  unfold lvl
  split
  .have:=lvl_le n (i / 2) (j / 2);lia
  .lia
theorem div_two (i:Int)(L:Nat):i / 2^L / 2=i / 2^(L+1):=by
 rw[Int.pow_succ,Int.ediv_ediv_of_nonneg (Int.le_of_lt (pow_pos' L))]
abbrev s_level_of:Stmt:=top 66
theorem sc_level_of:FnScope ["i","j","levels","both","level"] ["i","j","levels"] (Xac s_level_of):=by walk_at "S"
def sp_level_of:DSp:=λds P=>match ds with
 | [.int i,.int j,.int n]=>(0<=i/\0<=j/\0<=n)/\P (.fz (.int (lvl n.toNat i j)))
 |_=>False
theorem ok_level_of {f:Addr}{fd:FuncData}(Df:DefAt K mg "level_of" s_level_of f fd)(B:BltV mg)(KV:KitV K)(n_level:NsOf K mg "level"):
  Cal P w K mg base "level_of" 1 ["i","j","levels"] (spV K 3 sp_level_of):=by
 refine CalV.of Df sc_level_of (by walk_at "b") rfl (λc A o s H E hr=>⟨_,_,(Xah (ps_set (i:=3) sc_level_of.nd rfl (Or.inl rfl) (Xay op_or (pv 0) (pv 1)))
   (Xah (ps_set (i:=4) sc_level_of.nd rfl (Or.inl rfl) Xal)
   (Xah (ps_while PassesOwn.never (pw_and (pt_cmpR op_lt (pv 4) (pv 2) (nomark _)) (pw_and1 (pt_cmpR op_eq (Xay op_and (Xay op_shr (pv 3) (pv 4)) Xal) Xal (nomark _)))).pt (Xai (ps_aug (i:=4) sc_level_of.nd rfl (Or.inl rfl) Xal ip_add)))
   (Xai (Xas (pv 4)))))),
  (Xan (sS_set (sO_f (Xao oS_i0 Xad Xad)))
   (Xan (sS_set (sO_f Xag))
   (Xan (sS_while (sT_and (sT_test (Xao oS_b0 Xad Xad)) (sT_test (Xao oS_eq (Xaq (Xao oS_i0 (Xaq (Xao oS_i Xad Xad)) (Xaq Xag))) (Xaq Xag)))) (sS_aug oS_ip (Xaq Xag)))
   (Xa1 (sO_f Xaf))))),?_⟩)
 intro ds Pr h
 unfold sp_level_of at h
 split at h
 .rename_i i j n
  obtain⟨⟨hi,hj,hn⟩,k⟩:=h
  fin2
  refine⟨λm δ=>∃L:Nat,δ=[vI i,vI j,vI n,vI (Builtin.bitOr i j),vI L]/\(L:Int)<=n/\m=n.toNat-L/\lvl n.toNat i j=L+lvl (n.toNat-L) (i / 2^L) (j / 2^L),⟨_,0,rfl,by omega,rfl,by simp⟩,?_⟩
  rintro m δ ⟨L,rfl,h1,rfl,h2⟩
  fin2
  by_cases hL:(L:Int)<n
  .rw [if_pos hL]
   refine⟨by (clear h1;lia),?_⟩
   rw[Int.toNat_natCast]
   obtain⟨q,hq⟩:∃q,n.toNat-L=q+1:=⟨n.toNat-L-1,by (clear h1;lia)⟩
   rw[hq,lvl]at h2
   have hb:=bit_zero hi hj L
   by_cases hz:Builtin.bitAnd (Builtin.bitOr i j / 2^L) 1=0
   .rw [if_pos hz]
    rw[if_pos (hb.mp hz),div_two,div_two]at h2
    refine⟨n.toNat-(L+1),by lia,L+1,rfl,by lia,rfl,?_⟩
    rw[show n.toNat-(L+1)=q by lia]
    lia
   .rw [if_neg hz]
    rw[if_neg λz=>hz (hb.mpr z)]at h2
    rw[h2]at k
    exact k
  .rw [if_neg hL]
   have e:n.toNat-L=0:=by lia
   rw[e,lvl]at h2
   rw[h2]at k
   simpa using k
 .exact h.elim
def ptD (p:Int×Int):D:=.tup [.int p.1,.int p.2]
def plRow (i w:Nat):List (Int×Int):=(List.range w).map λ(j:Nat)=>((i:Int),(j:Int))
def allF (h w:Nat):List (Int×Int):=(List.range h).flatMap λi=>plRow i w
def lvF (n:Nat)(p:Int×Int):Nat:=lvl n p.1 p.2
def grp (n:Nat)(ps:List (Int×Int))(l:Nat):List (Int×Int):=ps.filter λp=>lvF n p==l
def placesF (h w n:Nat):List (Int×Int):=((List.range (n+1)).map (grp n (allF h w))).reverse.flatten
def grpO (n:Nat)(ps:List (Int×Int)):List OV:=(List.range (n+1)).map λl=>.nl ((grp n ps l).map λp=>.fz (ptD p))
theorem grpO_nil (n:Nat):grpO n []=(List.range (n+1)).map λ_=>OV.nl []:=rfl
theorem grpO_get {n l:Nat}{ps:List (Int×Int)}(h:l<=n):(grpO n ps)[l]?=some (.nl ((grp n ps l).map λp=>.fz (ptD p))):=by
 unfold grpO
 rw[List.getElem?_map,List.getElem?_range (by lia)]
 rfl
theorem grpO_snoc {n:Nat}{ps:List (Int×Int)}{p:Int×Int}:(grpO n ps).set (lvF n p) (.nl (((grp n ps (lvF n p)).map λp=>OV.fz (ptD p))++[.fz (ptD p)]))=grpO n (ps++[p]):=by
 have hle:lvF n p<=n:=lvl_le _ _ _
 refine List.ext_getElem? λl=>?_
 rw[List.getElem?_set]
 by_cases hl:l<=n
 .rw [grpO_get hl,grpO_get hl]
  have eg:grp n (ps++[p]) l=grp n ps l++(if lvF n p=l then [p] else []):=by
   unfold grp
   by_cases z:lvF n p=l<;>simp[z]
  rw[eg]
  by_cases z:lvF n p=l
  .rw [if_pos z,if_pos z,if_pos (by simp[grpO];lia),List.map_append,z]
   rfl
  .rw [if_neg z,if_neg z,List.append_nil]
 .have e1:(grpO n ps)[l]?=none:=List.getElem?_eq_none (by simp[grpO];lia)
  have e2:(grpO n (ps++[p]))[l]?=none:=List.getElem?_eq_none (by simp[grpO];lia)
  rw[if_neg (by lia),e1,e2]
theorem grp_len_le {n l:Nat}{ps:List (Int×Int)}:(grp n ps l).length<=ps.length:=List.length_filter_le _ _
theorem allF_succ {i w:Nat}:allF (i+1) w=allF i w++plRow i w:=by
 unfold allF
 rw[List.range_succ]
 simp
theorem plRow_take {i j:Nat}:plRow i (j+1)=plRow i j++[((i:Int),(j:Int))]:=by
 unfold plRow
 rw[List.range_succ,List.map_append]
 rfl
theorem plRow_len {i w:Nat}:(plRow i w).length=w:=by simp[plRow]
theorem allF_len {h w:Nat}:(allF h w).length=h*w:=by
 induction h with
 |zero=>simp[allF]
 |succ h ih=>rw[allF_succ,List.length_append,ih,plRow_len,Nat.succ_mul]
theorem grpO_vals {n:Nat}{ps:List (Int×Int)}:(grpO n ps).map OV.val=(List.range (n+1)).map λl=>D.lst ((grp n ps l).map ptD):=by
 unfold grpO
 rw[List.map_map]
 refine List.map_congr_left λl _=>?_
 show OV.val (.nl _)=_
 rw[OV.val,OV.vals_eq,List.map_map]
 rfl
theorem sum_ite (k:Nat)(g:Nat->Nat):∀m:Nat,k<m->((List.range m).map λl=>g l+if k=l then 1 else 0).sum=((List.range m).map g).sum+1
 | 0,h=>by lia
 |m + 1,h=>by
  rw[List.range_succ,List.map_append,List.map_append,List.sum_append,List.sum_append]
  by_cases hk:k=m
  .subst hk
   have:((List.range k).map λl=>g l+if k=l then 1 else 0)=(List.range k).map g:=by
    refine List.map_congr_left λl hl=>?_
    rw[if_neg (by have:=List.mem_range.mp hl;lia)];rfl
   rw[this]
   simp
   lia
  .rw [sum_ite k g m (by lia)]
   simp[hk]
   lia
theorem zeros:∀m:Nat,((List.range m).map λ_=>0).sum=0
 | 0=>rfl
 |m+1=>by
  rw[List.range_succ,List.map_append,List.sum_append,zeros m]
  rfl
theorem grp_sum (n:Nat):∀ps:List (Int×Int),((List.range (n+1)).map λl=>(grp n ps l).length).sum=ps.length
 | []=>by
  have:((List.range (n+1)).map λl=>(grp n [] l).length)=(List.range (n+1)).map λ_=>0:=List.map_congr_left λl _=>rfl
  exact zeros _
 |p :: ps=>by
  have e:((List.range (n+1)).map λl=>(grp n (p::ps) l).length)=(List.range (n+1)).map λl=>(grp n ps l).length+if lvF n p=l then 1 else 0:=by
   refine List.map_congr_left λl _=>?_
   unfold grp
   by_cases z:lvF n p=l<;>simp[z]
  rw[e,sum_ite _ _ _ (by have:=lvl_le n p.1 p.2;unfold lvF;lia),grp_sum n ps]
  rfl
theorem placesF_len {h w n:Nat}:(placesF h w n).length=h*w:=by
 unfold placesF
 rw[List.length_flatten,List.map_reverse,List.sum_reverse,List.map_map]
 exact (grp_sum n (allF h w)).trans allF_len
theorem take_rev_succ {α:Type}{xs:List (List α)}{i:Nat}{x:List α}(h:xs[i]?=some x):(xs.take (i+1)).flatten=(xs.take i).flatten++x:=by
 obtain⟨hi,e⟩:=List.getElem?_eq_some_iff.mp h
 rw[List.take_succ_eq_append_getElem hi,e]
 simp
abbrev s_places:Stmt:=top 67
theorem sc_places:FnScope ["high","wide","levels","groups","i","j","ordered","group"] ["high","wide","levels"] (Xac s_places):=by walk_at "S"
def sp_places:DSp:=λds P=>∃h w n:Nat,ds=[.int (h:Int),.int (w:Int),.int (n:Int)]/\(h<=100/\w<=100/\n<=100)/\P (.nl ((placesF h w n).map λp=>.fz (ptD p)))
theorem ok_places {f:Addr}{fd:FuncData}(Df:DefAt K mg "places" s_places f fd)(B:BltV mg)(KV:KitV K)(n_level:NsOf K mg "level")(c_level_of:Cal P w K mg base "level_of" 1 ["i","j","levels"] (spV K 3 sp_level_of)):
  Cal P w K mg base "places" 2 ["high","wide","levels"] (spV K 3 sp_places):=by
 refine CalV.of Df sc_places (by walk_at "b") rfl (λc A o s H E hr=>⟨_,_,(Xah (ps_setComp (i:=3) sc_places.nd rfl (Or.inl rfl) rfl (pi_range1 (by rfl) (by exact B.range) (Xaa (Xay op_add (pv 2) Xal) Xae)) (show BlkScope (Xac s_places) _ from⟨rfl,by decide +kernel,by decide +kernel,by decide +kernel⟩) (N:=["level"]) (ix:=[none]) (show CapOf _ _ _ _ from trivial) (λ_ _ _=>(Xa6 (i:=0) (show List.Nodup (["level"]:List Str) by decide +kernel) rfl (Or.inl rfl))) (λ_ _ _=>(pe_lstS Xae)))
   (Xah (ps_for PassesOwn.never rfl (pi_range1 (by rfl) (by exact B.range) (Xaa (pv 0) Xae)) (Xa6 (i:=4) sc_places.nd rfl (Or.inl rfl)) (Xai (ps_for PassesOwn.never rfl (pi_range1 (by rfl) (by exact B.range) (Xaa (pv 1) Xae)) (Xa6 (i:=5) sc_places.nd rfl (Or.inl rfl)) (Xai (ps_expr (pe_bm PySem.F.plainAttrs_list PySem.F.slot_list_append PySem.F.type_list_append mt_append (Xaz ix_list (pv 3) (Xav c_level_of (hr.mono (by decide)) (by rfl) (Xaa (pv 4) (Xaa (pv 5) (Xaa (pv 2) Xae)))) (λ_ _=>rfl)) (Xaa (pe_tupS (Xaa (pv 4) (Xaa (pv 5) Xae))) Xae)))))))
   (Xah (ps_set (i:=6) sc_places.nd rfl (Or.inl rfl) (pe_lstS Xae))
   (Xah (ps_for PassesOwn.never rfl (pi_reversedL rfl B.reversed (Xaa (pv 3) Xae)) (Xa6 (i:=7) sc_places.nd rfl (Or.inl rfl)) (Xai (ps_expr (pe_bm PySem.F.plainAttrs_list PySem.F.slot_list_extend PySem.F.type_list_extend mt_extendS (pv 6) (Xaa (pv 7) Xae)))))
   (Xai (Xas (pv 6))))))),
  (Xan (sS_set (sO_comp (sI_rng1 (Xaj (Xaq (Xao oS_i0 Xad (Xaq Xag))) Xap)) sG_name (sO_lst sAO_nil)))
   (Xan (sS_for (sI_rng1 (Xaj Xad Xap)) sG_name (sS_for (sI_rng1 (Xaj Xad Xap)) sG_name (sS_app2 (Xaq (sF_o (Xar (Xab Xaf (Xab Xaf (Xab Xaf Xak)))))) (sO_f (sF_tup (Xab Xaf (Xab Xaf Xak)))))))
   (Xan (sS_set (sO_lst sAO_nil))
   (Xan (sS_frz 3 (sS_for (sI_revL (Xab Xaf Xak)) sG_name (sS_ext Xaf)))
   sS_retV)))),?_⟩)
 rintro ds Pr ⟨h,w',n,rfl,⟨hh,hw,hn⟩,k⟩
 refine sSeq_k λN hN=>?_
 fin2
 refine⟨⟨by lia,by lia⟩,CmpW.rng (λ_=>.nl []) (by lia) (λi hi Q q=>by fin2;exact q) ?_⟩
 rw[show ((n:Int)+1).toNat=n+1 by lia,<- grpO_nil]
 gp_on
 gn_on
 refine⟨⟨by lia,by lia⟩,λi δ=>i<=h/\∃o4 o5 o6 o7,δ=[vI h,vI w',vI n,vL (grpO n (allF i w')),o4,o5,o6,o7],⟨Nat.zero_le _,_,_,_,_,rfl⟩,?_,?_⟩
 .rintro i d δ hd ⟨hi',o4,o5,o6,o7,rfl⟩
  obtain⟨hi,rfl⟩:=rng_inv hd
  rw[Int.toNat_natCast]at hi
  fin2
  refine⟨⟨by lia,by lia⟩,λj δ=>∃o5,δ=[vI h,vI w',vI n,vL (grpO n (allF i w'++plRow i j)),vI (0+(i:Int)*1),o5,o6,o7],⟨o5,by simp[plRow]⟩,?_,?_⟩
  .rintro j e δ he ⟨o5,rfl⟩
   obtain⟨hj,rfl⟩:=rng_inv he
   rw[Int.toNat_natCast]at hj
   rw[show 0+(i:Int)*1=i by lia,show 0+(j:Int)*1=j by lia]
   fin2
   simp only[sp_level_of]
   refine⟨⟨by lia,by lia,by lia⟩,?_⟩
   fin2
   rw[Int.toNat_natCast,Int.toNat_natCast]
   have hle:lvl n i j<=n:=lvl_le _ _ _
   refine⟨by lia,_,grpO_get (l:=lvl n i j) hle,?_,?_⟩
   .have h1:=grp_len_le (n:=n) (l:=lvl n i j) (ps:=allF i w'++plRow i j)
    rw[List.length_append,allF_len,plRow_len]at h1
    have h2:i*w'<=100*100:=Nat.mul_le_mul (by lia) hw
    rw[List.length_map]
    lia
   .have e:=grpO_snoc (n:=n) (ps:=allF i w'++plRow i j) (p:=((i:Int),(j:Int)))
    rw[List.append_assoc,<- plRow_take]at e
    rw[<- e]
    exact⟨_,rfl⟩
  .rintro δ ⟨o5,rfl⟩
   rw[rng_len,Int.toNat_natCast,<- allF_succ]
   exact⟨hi,_,_,_,_,rfl⟩
 rintro δ ⟨hi,o4,o5,o6,o7,rfl⟩
 rw[rng_len,Int.toNat_natCast]
 gp_on
 gn_on
 gp_on
 gn_on
 rw[grpO_vals,<- List.map_reverse]
 generalize hg3:some (Sl.own (OV.fz (D.lst ((List.range (n+1)).map λl=>D.lst ((grp n (allF h w') l).map ptD)))))=o3
 refine⟨λi δ=>∃o7,δ=[vI h,vI w',vI n,o3,o4,o5,vL ((((((List.range (n+1)).map (grp n (allF h w'))).reverse).take i).flatten).map λp=>.fz (ptD p)),o7],?_,?_,?_⟩
 .exact ⟨_,rfl⟩
 .rintro i d δ hd ⟨o7,rfl⟩
  obtain⟨l,hl,rfl⟩:=mget hd
  have hx:(((List.range (n+1)).map (grp n (allF h w'))).reverse)[i]?=some (grp n (allF h w') l):=by
   rw[<- List.map_reverse,List.getElem?_map,hl]
   rfl
  dsimp only
  rw[take_rev_succ hx]
  have hlen:((((List.range (n+1)).map (grp n (allF h w'))).reverse.take i).flatten).length+(grp n (allF h w') l).length<=10000:=by
   rw[<- List.length_append,<- take_rev_succ hx]
   have h1:((((List.range (n+1)).map (grp n (allF h w'))).reverse.take (i+1)).flatten).length<=(placesF h w' n).length:=by
    unfold placesF
    conv=>rhs;rw[<- List.take_append_drop (i+1) ((List.range (n+1)).map (grp n (allF h w'))).reverse,List.flatten_append,List.length_append]
    lia
   rw[placesF_len]at h1
   have h2:h*w'<=100*100:=Nat.mul_le_mul hh hw
   lia
  fin2
  refine⟨by lia,?_⟩
  rw[List.map_map,List.map_append]
  exact⟨_,rfl⟩
 .rintro δ ⟨o7,rfl⟩
  rw[List.length_map,List.length_reverse,List.length_range,List.take_of_length_le (by simp)]
  gp_on
  fin2
  exact k
def keyF (n:Nat)(p:Int×Int):List Int:=[0-(lvF n p:Int),p.1,p.2]
def keyLt (n:Nat)(p q:Int×Int):Prop:=HT.lexLt (keyF n p) (keyF n q)=true
theorem keyLt_of_lv {n:Nat}{p q:Int×Int}(h:lvF n q<lvF n p):keyLt n p q:=by
 unfold keyLt keyF
 rw[HT.lexLt_cons,if_neg (by lia)]
 exact decide_eq_true (by lia)
theorem keyLt_of_row {n:Nat}{p q:Int×Int}(h:lvF n p=lvF n q)(hr:p.1<q.1∨(p.1=q.1/\p.2<q.2)):keyLt n p q:=by
 unfold keyLt keyF
 rw[HT.lexLt_cons,if_pos (by lia),HT.lexLt_cons]
 rcases hr with hr | ⟨h1,h2⟩
 .rw [if_neg (by lia)];exact decide_eq_true hr
 .rw [if_pos h1,HT.lexLt_cons,if_neg (by lia)];exact decide_eq_true h2
def rowLt (p q:Int×Int):Prop:=p.1<q.1∨(p.1=q.1/\p.2<q.2)
theorem mem_row {i w:Nat}{p:Int×Int}:p∈plRow i w↔p.1=i/\0<=p.2/\p.2<w:=by
 unfold plRow
 rw[List.mem_map]
 constructor
 .rintro ⟨j,hj,rfl⟩
  have:=List.mem_range.mp hj
  exact⟨rfl,by show (0:Int)<=(j:Int);lia,by show (j:Int)<w;lia⟩
 .rintro ⟨h1,h2,h3⟩
  exact⟨p.2.toNat,List.mem_range.mpr (by lia),Prod.ext h1.symm (by show ((p.2.toNat:Nat):Int)=p.2;lia)⟩
theorem mem_all {h w:Nat}{p:Int×Int}:p∈allF h w↔(0<=p.1/\p.1<h)/\0<=p.2/\p.2<w:=by
 unfold allF
 rw[List.mem_flatMap]
 constructor
 .rintro ⟨i,hi,hp⟩
  have:=List.mem_range.mp hi
  obtain⟨h1,h2⟩:=mem_row.mp hp
  exact⟨by lia,h2⟩
 .rintro ⟨h1,h2⟩
  exact⟨p.1.toNat,List.mem_range.mpr (by omega),mem_row.mpr ⟨by lia,h2⟩⟩
theorem row_pw {i w:Nat}:(plRow i w).Pairwise rowLt:=by
 unfold plRow
 rw[List.pairwise_map]
 exact List.Pairwise.imp (λ{a b} hab=>.inr ⟨rfl,by show (a:Int)<(b:Int);lia⟩) (List.pairwise_lt_range)
theorem all_pw {w:Nat}:∀h:Nat,(allF h w).Pairwise rowLt
 | 0=>by simp[allF]
 |h+1=>by
  rw[allF_succ,List.pairwise_append]
  refine⟨all_pw h,row_pw,λp hp q hq=>.inl ?_⟩
  have h1:=(mem_all.mp hp).1
  have h2:=(mem_row.mp hq).1
  lia
theorem placesF_pw {h w n:Nat}:(placesF h w n).Pairwise (keyLt n):=by
 unfold placesF
 rw[List.pairwise_flatten]
 constructor
 .intro l hl
  rw[List.mem_reverse,List.mem_map]at hl
  obtain⟨k,_,rfl⟩:=hl
  have h1:(grp n (allF h w) k).Pairwise rowLt:=(all_pw h).filter _
  refine List.Pairwise.imp_of_mem (λ{a b} ha hb hab=>keyLt_of_row ?_ hab) h1
  have e1:lvF n a=k:=by simpa using (List.mem_filter.mp ha).2
  have e2:lvF n b=k:=by simpa using (List.mem_filter.mp hb).2
  rw[e1,e2]
 .rw [List.pairwise_reverse,List.pairwise_map]
  refine List.Pairwise.imp (λ{a b} hab x hx y hy=>keyLt_of_lv ?_) (List.pairwise_lt_range)
  have e1:lvF n x=b:=by simpa using (List.mem_filter.mp hx).2
  have e2:lvF n y=a:=by simpa using (List.mem_filter.mp hy).2
  lia
theorem placesF_mem {h w n:Nat}{p:Int×Int}(hp:p∈placesF h w n):(0<=p.1/\p.1<h)/\0<=p.2/\p.2<w:=by
 obtain⟨l,hl,hp⟩:=List.mem_flatten.mp hp
 rw[List.mem_reverse,List.mem_map]at hl
 obtain⟨k,_,rfl⟩:=hl
 exact mem_all.mp (List.mem_filter.mp hp).1
def numD:D->Bool
 | .int _=>true
 |_=>false
def rowD (w:Int):D->Bool
 | .lst xs=>decide ((xs.length:Int)=w) && xs.all numD
 |_=>false
def sizD (n:Nat):Bool:=decide (1<=n) && decide (n<=64)
def picD:D->Bool
 | .lst (.lst r::rs)=>sizD (rs.length+1) && sizD r.length && (D.lst r::rs).all (rowD r.length)
 |_=>false
def knD:D->Bool
 | .ty _=>false
 | .fn _=>false
 | .exc _=>false
 | .obj _ _ _=>false
 | .clo _ _ _ _=>false
 |_=>true
def okP (d:D):Prop:=knD d=true/\∀xs,d = .lst xs->xs.length<=1000/\∀x∈xs,knD x=true/\∀ys,x = .lst ys->ys.length<=1000/\∀y∈ys,knD y=true
abbrev s_is_number:Stmt:=top 6
theorem sc_is_number:FnScope ["thing"] ["thing"] (Xac s_is_number):=by walk_at "S"
def sp_is_number:DSp:=λds P=>∃d,ds=[d]/\knD d=true/\P (.fz (.bl (numD d)))
theorem ok_is_number {f:Addr}{fd:FuncData}(Df:DefAt K mg "is_number" s_is_number f fd)(B:BltV mg)(KV:KitV K):
  Cal P w K mg base "is_number" 1 ["thing"] (spV K 1 sp_is_number):=by
 refine CalV.of Df sc_is_number (by walk_at "b") rfl (λc A o s H E hr=>⟨_,_,(Xai (Xas (pe_and (Xaw call_isiD (by rfl) B.isinstance boot_isinstance (Xaa (pv 0) (Xaa (pe_bltn (v:=.ty "int") (by rfl) B.int PyProof.Rows.boot_int (by rfl)) Xae))) (pe_one (pe_not (Xaw call_isiD (by rfl) B.isinstance boot_isinstance (Xaa (pv 0) (Xaa (pe_bltn (v:=.ty "bool") (by rfl) B.bool PyProof.Rows.boot_bool (by rfl)) Xae)))))))),
  (Xa1 (sO_f (sF_andV (sF_cb (cS_isi KV) (Xaj Xad (Xaj (Xaq sF_ty) Xap))) (sF_notV (sF_cb (cS_isi KV) (Xaj Xad (Xaj (Xaq sF_ty) Xap))))))),?_⟩)
 rintro ds Pr ⟨d,rfl,hk,k⟩
 cases d<;>first | (simp[knD]at hk;done) | (fin2;exact k)
abbrev s_holds:Stmt:=top 14
theorem sc_holds:FnScope ["one","number"] ["one","number"] (Xac s_holds):=by walk_at "S"
def sp_holds:DSp:=λds P=>∃a b n:Int,ds=[.tup [.int a,.int b],.int n]/\P (.fz (.bl (decide (a<=n) && decide (n<=b))))
theorem ok_holds {f:Addr}{fd:FuncData}(Df:DefAt K mg "holds" s_holds f fd)(B:BltV mg)(KV:KitV K):
  Cal P w K mg base "holds" 1 ["one","number"] (spV K 2 sp_holds):=by
 refine CalV.of Df sc_holds (by walk_at "b") rfl (λc A o s H E hr=>⟨_,_,(Xai (Xas (pe_chain op_le op_le (Xaz Xau (pv 0) Xal (λ_ _=>rfl)) (pv 1) (Xaz Xau (pv 0) Xal (λ_ _=>rfl))))),
  (Xa1 (sO_f (sF_chain oS_b0 oS_b0 (sB_op (OpF.b Xat) Xad (Xaq Xag)) Xad (sB_op (OpF.b Xat) Xad (Xaq Xag))))),?_⟩)
 rintro ds Pr ⟨a,b,n,rfl,k⟩
 fin2
 by_cases h:a<=n
 .rw [if_pos h]
  rw[decide_eq_true h,Bool.true_and]at k
  exact k
 .rw [if_neg h]
  rw[decide_eq_false h,Bool.false_and]at k
  exact k
abbrev s_is_row:Stmt:=top 36
theorem sc_is_row:FnScope ["thing","wide"] ["thing","wide"] (Xac s_is_row):=by walk_at "S"
def sp_is_row:DSp:=λds P=>∃(d:D) (w:Int),ds=[d,.int w]/\knD d=true/\(∀xs,d = .lst xs->xs.length<=1000/\∀x∈xs,knD x=true)/\P (.fz (.bl (rowD w d)))
theorem all_bools {α:Type}{f:α->Bool}{xs:List α}:(xs.map f).all id=xs.all f:=by simp[ Function.comp_def]
theorem ok_is_row {f:Addr}{fd:FuncData}(Df:DefAt K mg "is_row" s_is_row f fd)(B:BltV mg)(KV:KitV K)(c_is_number:Cal P w K mg base "is_number" 1 ["thing"] (spV K 1 sp_is_number)):
  Cal P w K mg base "is_row" 2 ["thing","wide"] (spV K 2 sp_is_row):=by
 refine CalV.of Df sc_is_row (by walk_at "b") rfl (λc A o s H E hr=>⟨_,_,(Xah (ps_if (pw_or (pt_not (pt_val (Xaw call_isiD (by rfl) B.isinstance boot_isinstance (Xaa (pv 0) (Xaa (pe_bltn (v:=.ty "list") (by rfl) B.list PyProof.Rows.boot_list (by rfl)) Xae))))) (pw_or1 (pt_cmpR op_ne (Xaw Xa3 (by rfl) B.len PySem.boot_len (Xaa (pv 0) Xae)) (pv 1) (nomark _)))).pt (Xai (Xas pe_bl)) pss_nil)
   (Xai (Xas (Xaw (call_allB rfl) (by rfl) B.all boot_all (Xaa (pe_comp rfl (pi_list (pv 0)) (show BlkScope (Xac s_is_row) _ from⟨rfl,by decide +kernel,by decide +kernel,by decide +kernel⟩) (N:=["number"]) (ix:=[none]) (show CapOf _ _ _ _ from trivial) (λ_ _ _=>(Xa6 (i:=0) (show List.Nodup (["number"]:List Str) by decide +kernel) rfl (Or.inl rfl))) (λ_ _ _=>(Xav c_is_number (hr.mono (by decide)) (by rfl) (Xaa (pv 0) Xae)))) Xae))))),
  (Xan (sS_if (sT_or (sT_not (sT_b (sF_cb (cS_isi KV) (Xaj Xad (Xaj (Xaq sF_ty) Xap))))) (sT_test (Xao oS_ne (Xaq (sF_cb cS_len (Xaj Xad Xap))) Xad))) (Xa1 (sO_f sF_bl)) sS_next)
   (Xa1 (sO_f (sF_cb cS_all (Xaj (Xaq (sF_o (sO_comp (sI_list Xaf) sG_name (Xar (Xab Xaf Xak))))) Xap))))),?_⟩)
 rintro ds Pr ⟨d,w,rfl,hk,hx,k⟩
 cases d with
 |lst xs=>
  obtain⟨hl,hk2⟩:=hx xs rfl
  fin2
  simp only[rowD]at k
  by_cases h:(xs.length:Int)=w
  .rw [decide_eq_true h]at k ⊢
   simp only[Bool.not_true,Bool.false_eq_true,if_false]
   rw[show xs=xs.map id by simp]
   refine CmpW.map xs id (λx=>.fz (.bl (numD x))) (by lia) (λx hx Q q=>?_) ?_
   .fin2
    exact⟨x,rfl,hk2 x hx,q⟩
   .fin2
    refine⟨xs.map numD,by simp only[List.map_map,Function.comp_def,OV.val],?_⟩
    rw[all_bools]
    exact k
  .rw [decide_eq_false h]at k ⊢
   simp only[Bool.not_false,if_true]
   exact k
 |_=>first | (simp[knD]at hk;done) | (fin2;exact k)
abbrev s_is_picture:Stmt:=top 37
theorem sc_is_picture:FnScope ["thing"] ["thing"] (Xac s_is_picture):=by walk_at "S"
def sp_is_picture:DSp:=λds P=>∃d:D,ds=[d]/\okP d/\P (.fz (.bl (picD d)))
theorem siz_eq {n:Nat}:(decide ((1:Int)<=(n:Int)) && decide ((n:Int)<=64))=sizD n:=by
 congr 1
 .exact decide_eq_decide.mpr (by omega)
 .exact decide_eq_decide.mpr (by omega)
theorem ok_is_picture {f:Addr}{fd:FuncData}(Df:DefAt K mg "is_picture" s_is_picture f fd)(B:BltV mg)(KV:KitV K)(g_SIZES:TupC K mg "SIZES" (D.tup [.int 1,.int 64]))(c_holds:Cal P w K mg base "holds" 1 ["one","number"] (spV K 2 sp_holds))(c_is_row:Cal P w K mg base "is_row" 2 ["thing","wide"] (spV K 2 sp_is_row)):
  Cal P w K mg base "is_picture" 3 ["thing"] (spV K 1 sp_is_picture):=by
 refine CalV.of Df sc_is_picture (by walk_at "b") rfl (λc A o s H E hr=>⟨_,_,(Xah (ps_if (pw_or (pt_not (pt_val (Xaw call_isiD (by rfl) B.isinstance boot_isinstance (Xaa (pv 0) (Xaa (pe_bltn (v:=.ty "list") (by rfl) B.list PyProof.Rows.boot_list (by rfl)) Xae))))) (pw_or1 (pt_not (pt_val (Xav c_holds (hr.mono (by decide)) (by rfl) (Xaa (pe_globT (by rfl) g_SIZES) (Xaa (Xaw Xa3 (by rfl) B.len PySem.boot_len (Xaa (pv 0) Xae)) Xae))))))).pt (Xai (Xas pe_bl)) pss_nil)
   (Xah (ps_if (pw_or (pt_not (pt_val (Xaw call_isiD (by rfl) B.isinstance boot_isinstance (Xaa (Xaz ix_list (pv 0) Xal (λ_ _=>rfl)) (Xaa (pe_bltn (v:=.ty "list") (by rfl) B.list PyProof.Rows.boot_list (by rfl)) Xae))))) (pw_or1 (pt_not (pt_val (Xav c_holds (hr.mono (by decide)) (by rfl) (Xaa (pe_globT (by rfl) g_SIZES) (Xaa (Xaw Xa3 (by rfl) B.len PySem.boot_len (Xaa (Xaz ix_list (pv 0) Xal (λ_ _=>rfl)) Xae)) Xae))))))).pt (Xai (Xas pe_bl)) pss_nil)
   (Xai (Xas (Xaw (call_allB rfl) (by rfl) B.all boot_all (Xaa (pe_comp rfl (pi_list (pv 0)) (show BlkScope (Xac s_is_picture) _ from⟨rfl,by decide +kernel,by decide +kernel,by decide +kernel⟩) (N:=["row","thing"]) (ix:=[none,some 0]) (show CapOf _ _ _ _ from⟨⟨rfl,rfl,.inl rfl⟩,trivial⟩) (λ_ _ _=>(Xa6 (i:=0) (show List.Nodup (["row","thing"]:List Str) by decide +kernel) rfl (Or.inl rfl))) (λ_ _ _=>(Xav c_is_row (hr.mono (by decide)) (by rfl) (Xaa (pv 0) (Xaa (Xaw Xa3 (by rfl) B.len PySem.boot_len (Xaa (Xaz ix_list (pv 1) Xal (λ_ _=>rfl)) Xae)) Xae))))) Xae)))))),
  (Xan (sS_if (sT_or (sT_not (sT_b (sF_cb (cS_isi KV) (Xaj Xad (Xaj (Xaq sF_ty) Xap))))) (sT_not (sT_b (sF_o (Xar (Xab sF_gl (Xab (sF_cb cS_len (Xaj Xad Xap)) Xak))))))) (Xa1 (sO_f sF_bl)) sS_next)
   (Xan (sS_if (sT_or (sT_not (sT_b (sF_cb (cS_isi KV) (Xaj (sB_op (OpF.b oF_ixL) Xad (Xaq Xag)) (Xaj (Xaq sF_ty) Xap))))) (sT_not (sT_b (sF_o (Xar (Xab sF_gl (Xab (sF_cb cS_len (Xaj (sB_op (OpF.b oF_ixL) Xad (Xaq Xag)) Xap)) Xak))))))) (Xa1 (sO_f sF_bl)) sS_next)
   (Xa1 (sO_f (sF_cb cS_all (Xaj (Xaq (sF_o (sO_comp (sI_list Xaf) sG_name (Xar (Xab Xaf (Xab (sF_cb cS_len (Xaj (sB_op (OpF.b oF_ixL) Xad (Xaq Xag)) Xap)) Xak)))))) Xap)))))),?_⟩)
 rintro ds Pr ⟨d,rfl,⟨hk,hx⟩,k⟩
 cases d with
 |lst xs=>
  obtain⟨hl,hk2⟩:=hx xs rfl
  fin2
  refine⟨1,64,_,rfl,?_⟩
  fin2
  rw[siz_eq]
  cases xs with
  |nil=>exact k
  |cons x rs=>
   rw[show (x::rs).length=rs.length+1 from rfl]
   have kx:=hk2 x List.mem_cons_self
   by_cases hs:sizD (rs.length+1)=true
   .rw [hs]
    simp only[Bool.not_true,Bool.false_eq_true,if_false]
    refine⟨x,atI_c0,?_⟩
    cases x with
    |lst r=>
     fin2
     refine⟨1,64,_,rfl,?_⟩
     fin2
     rw[siz_eq]
     simp only[picD,hs,Bool.true_and]at k
     by_cases hr:sizD r.length=true
     .rw [hr]
      rw[hr,Bool.true_and]at k
      simp only[Bool.not_true,Bool.false_eq_true,if_false]
      rw[show D.lst r::rs=(D.lst r::rs).map id by simp]
      refine CmpW.map (D.lst r::rs) id (λx=>.fz (.bl (rowD r.length x))) (by simp at hl ⊢;lia) (λx hx' Q q=>?_) ?_
      .fin2
       have:=hk2 x (by simpa using hx')
       simp only[List.map_id_fun',id_eq,List.map_cons,List.map_id,atI_c0]
       exact⟨x,_,rfl,this.1,this.2,q⟩
      .fin2
       refine⟨(D.lst r::rs).map (rowD r.length),by simp only[List.map_map,List.map_cons,Function.comp_def,OV.val],?_⟩
       rw[all_bools]
       exact k
     .have hr':sizD r.length=false:=by simpa using hr
      rw[hr']
      rw[hr',Bool.false_and]at k
      simp only[Bool.not_false,if_true]
      exact k
    |_=>
     have kx1:=kx.1
     simp only[picD]at k
     first | (simp[knD]at kx1;done) | (fin2;exact k)
   .have hs':sizD (rs.length+1)=false:=by simpa using hs
    rw[hs']
    simp only[Bool.not_false,if_true]
    cases x<;>simp only[picD,hs',Bool.false_and]at k<;>exact k
 |_=>first | (simp[knD]at hk;done) | (fin2;exact k)
theorem all_num {xs:List Int}:(xs.map D.int).all numD=true:=by simp[numD]
theorem row_ints {w:Nat}{f:Nat->Int}:(tab w λj=>D.int (f j))=(tab w f).map D.int:=by rw[tab_map]
theorem rowD_ints {xs:List Int}{w:Int}:rowD w (.lst (xs.map D.int))=decide ((xs.length:Int)=w):=by
 simp only[rowD,all_num,Bool.and_true,List.length_map]
theorem pic_sheet {h w:Nat}{e:Nat->Nat->Int}(h0:0<h)(w0:0<w):picD (.lst (shV D.int h w e))=(decide (h<=64) && decide (w<=64)):=by
 obtain⟨h',rfl⟩:∃h',h=h'+1:=⟨h-1,by lia⟩
 have e1:shV D.int (h'+1) w e=D.lst (tab w λj=>D.int (e 0 j))::(List.range h').map λi=>D.lst (tab w λj=>D.int (e (i+1) j)):=by
  unfold shV
  conv=>lhs;unfold tab
  rw[List.range_succ_eq_map,List.map_cons,List.map_map]
  rfl
 have e2:(shV D.int (h'+1) w e).all (rowD w)=true:=by
  rw[List.all_eq_true]
  intro x hx
  obtain⟨i,_,rfl⟩:=List.mem_map.mp hx
  rw[row_ints,rowD_ints,tab_len]
  simp
 rw[e1]at e2 ⊢
 simp only[picD,tab_len,e2,Bool.and_true,List.length_map,List.length_range]
 unfold sizD
 rw[decide_eq_true (show 1<=h'+1 by lia),decide_eq_true (show 1<=w by lia),Bool.true_and,Bool.true_and]
theorem okP_rows {xs:List D}(hl:xs.length<=1000)(h:∀x∈xs,knD x=true/\∀ys,x = .lst ys->ys.length<=1000/\∀y∈ys,knD y=true):okP (.lst xs):=⟨rfl,λxs' e=>by cases e;exact⟨hl,h⟩⟩
theorem ok_row {ls:List Int}(hl:ls.length<=1000):knD (D.lst (ls.map D.int))=true/\∀ys,D.lst (ls.map D.int) = .lst ys->ys.length<=1000/\∀y∈ys,knD y=true:=⟨rfl,λys e=>by
 cases e
 refine⟨by simpa using hl,λy hy=>?_⟩
 obtain⟨i,_,rfl⟩:=List.mem_map.mp hy
 rfl⟩
theorem okP_sheet {h w:Nat}{e:Nat->Nat->Int}(hh:h<=100)(hw:w<=100):okP (.lst (shV D.int h w e)):=by
 refine okP_rows (by rw[shV,tab_len];lia) λy hy=>?_
 obtain⟨k,_,rfl⟩:=List.mem_map.mp hy
 rw[row_ints]
 exact ok_row (by rw[tab_len];lia)
abbrev ladK:List (Str×D):=[("still",.tup []),("pair",.tup [.tup [.int 1,.int (-1),.int 0,.int 0,.int 0],.tup [.int 0,.int 0,.int 1,.int 0,.int 1]]),("line",.tup [.tup [.int 1,.int (-1),.int (-1),.int 1,.int 1],.tup [.int 0,.int 1,.int 1,.int 2,.int 2]]),("long",.tup [.tup [.int 1,.int (-1),.int (-1),.int 1,.int 1],.tup [.int 0,.int 1,.int 1,.int 2,.int 2],.tup [.int 1,.int (-1),.int (-1),.int 4,.int 3]])]
def sp_ladder_of:DSp:=λds P=>∃k d,ds=[.str k]/\ladK.lookup k=some d/\P (.fz d)
abbrev s_ladder_of:Stmt:=top 26
theorem sc_ladder_of:FnScope ["name"] ["name"] (Xac s_ladder_of):=by walk_at "S"
theorem ok_ladder_of {f:Addr}{fd:FuncData}(Df:DefAt K mg "ladder_of" s_ladder_of f fd)(B:BltV mg)(KV:KitV K)(g_LADDERS:DicC w K mg "LADDERS" [("still",.tup []),("pair",.tup [.tup [.int 1,.int (-1),.int 0,.int 0,.int 0],.tup [.int 0,.int 0,.int 1,.int 0,.int 1]]),("line",.tup [.tup [.int 1,.int (-1),.int (-1),.int 1,.int 1],.tup [.int 0,.int 1,.int 1,.int 2,.int 2]]),("long",.tup [.tup [.int 1,.int (-1),.int (-1),.int 1,.int 1],.tup [.int 0,.int 1,.int 1,.int 2,.int 2],.tup [.int 1,.int (-1),.int (-1),.int 4,.int 3]])]):
  Cal P w K mg base "ladder_of" 1 ["name"] (spV K 1 sp_ladder_of):=by
 refine CalV.of Df sc_ladder_of (by walk_at "b") rfl (λc A o s H E hr=>⟨_,_,(Xah (ps_if (pt_cmp (pc_notInC (by rfl) g_LADDERS (pv 0))) (Xai ps_never) pss_nil)
   (Xai (Xas (pe_getC (by rfl) g_LADDERS (pv 0) (λ_ _=>rfl))))),
  (Xan (sS_if (sT_b (sF_notInC Xaf)) sS_never sS_next)
   (Xa1 (sO_f (sF_getC Xaf)))),?_⟩)
 rintro ds Pr ⟨k,d,rfl,hk,h⟩
 fin2
 have hn:(ladK.lookup k).isNone=false:=by rw[hk];rfl
 rw[show (List.lookup k _).isNone=false from hn]
 rw[if_neg Bool.false_ne_true]
 exact⟨d,hk,h⟩
def sp_is_lift:DSp:=λds P=>∃f:Lf,ds=[lfD f]/\f.Ok/\P (.fz (.bl true))
def sp_is_ladder:DSp:=λds P=>∃fs:List Lf,ds=[ladD fs]/\fs.length<=6/\(∀f∈fs,f.Ok)/\P (.fz (.bl true))
def sp_is_part:DSp:=λds P=>∃n:Nat,ds=[.int n,.int 2]/\n<=6/\P (.fz (.bl true))
def numsF (h w:Nat)(e:Nat->Nat->Int)(fs:List Lf)(L:Nat):List Int:=(placesF h w L).map λp=>layF 0 (λk=>raiseF fs (2^k:Nat)) h w L e p.1.toNat p.2.toNat
def sp_coded:DSp:=λds P=>∃(h w:Nat) (e:Nat->Nat->Int) (fs:List Lf) (L b:Nat),ds=[shI h w e,ladD fs,.int L]/\fs.length<=6/\(∀f∈fs,f.Ok)/\L<=6/\0<h/\h<=64/\0<w/\w<=64/\6<=b/\b<=1000/\(∀i j,-2^b<=e i j/\e i j<=2^b)/\3*(h*w)*(b+10*fs.length*L+1)<=900000/\
 ∀(n:Nat) (bs:List Bool) (v:Wk),(∃x∈numsF h w e fs L,ibN x=n)->(∀x∈numsF h w e fs L,ibN x<=n)->n<=b+10*fs.length*L+1->Tell (numsF h w e fs L) (Wk.turn ⟨n,0,[],[⟨0,0,(numsF h w e fs L).length,1-2^n,2^n-1⟩],[]⟩) bs->Fol (Wk.turn ⟨n,0,[],[⟨0,0,(numsF h w e fs L).length,1-2^n,2^n-1⟩],[]⟩) bs v->v.pl<0->Shp (numsF h w e fs L).length v->CompW (numsF h w e fs L) v->v.us=bs.length->bs.length<=900000->
  P (.fz (.tup [.tup [.int h,.int w,.int L,.int n,ladD fs],.str (strOf bs)]))
abbrev s_is_lift:Stmt:=top 24
theorem sc_is_lift:FnScope ["thing"] ["thing"] (Xac s_is_lift):=by walk_at "S"
abbrev s_is_ladder:Stmt:=top 25
theorem sc_is_ladder:FnScope ["thing"] ["thing"] (Xac s_is_ladder):=by walk_at "S"
abbrev s_is_part:Stmt:=top 75
theorem sc_is_part:FnScope ["thing","at"] ["thing","at"] (Xac s_is_part):=by walk_at "S"
abbrev s_coded:Stmt:=top 78
theorem sc_coded:FnScope ["picture","ladder","levels","lifts","wave","high","wide","numbers","planes"] ["picture","ladder","levels"] (Xac s_coded):=by walk_at "S"
def trD (q:Int×Int×Int):D:=.tup [.int q.1,.tup [.int q.2.1,.int q.2.2]]
theorem ok_is_lift {f:Addr}{fd:FuncData}(Df:DefAt K mg "is_lift" s_is_lift f fd)(B:BltV mg)(KV:KitV K)(g_PART_SPANS:TupC K mg "PART_SPANS" (D.tup [.tup [.int 0,.int 1],.tup [.int (-8),.int 8],.tup [.int (-8),.int 8],.tup [.int (-64),.int 64],.tup [.int 0,.int 8]]))(c_is_number:Cal P w K mg base "is_number" 1 ["thing"] (spV K 1 sp_is_number))(c_holds:Cal P w K mg base "holds" 1 ["one","number"] (spV K 2 sp_holds)):
  Cal P w K mg base "is_lift" 2 ["thing"] (spV K 1 sp_is_lift):=by
 refine CalV.of Df sc_is_lift (by walk_at "b") rfl (λc A o s H E hr=>⟨_,_,(Xah (ps_if (pw_or (pt_not (pt_val (Xaw call_isiD (by rfl) B.isinstance boot_isinstance (Xaa (pv 0) (Xaa (pe_bltn (v:=.ty "tuple") (by rfl) B.tuple PyProof.Rows.boot_tuple (by rfl)) Xae))))) (pw_or1 (pt_cmpR op_ne (Xaw Xa3 (by rfl) B.len PySem.boot_len (Xaa (pv 0) Xae)) (Xaw Xa3 (by rfl) B.len PySem.boot_len (Xaa (pe_globT (by rfl) g_PART_SPANS) Xae)) (nomark _)))).pt (Xai (Xas pe_bl)) pss_nil)
   (Xai (Xas (Xaw (call_allB rfl) (by rfl) B.all boot_all (Xaa (pe_comp rfl (pi_zipT rfl B.zip (Xaa (pv 0) (Xaa (pe_globT (by rfl) g_PART_SPANS) Xae))) (show BlkScope (Xac s_is_lift) _ from⟨rfl,by decide +kernel,by decide +kernel,by decide +kernel⟩) (N:=["part","span"]) (ix:=[none,none]) (show CapOf _ _ _ _ from trivial) (λ_ _ _=>(pg_tup (n:=2) rfl (pgs_cons (Xa6 (i:=0) (show List.Nodup (["part","span"]:List Str) by decide +kernel) rfl (Or.inl rfl)) (pgs_cons (Xa6 (i:=1) (show List.Nodup (["part","span"]:List Str) by decide +kernel) rfl (Or.inl rfl)) pgs_nil)))) (λ_ _ _=>(pe_and (Xav c_is_number (hr.mono (by decide)) (by rfl) (Xaa (pv 0) Xae)) (pe_one (Xav c_holds (hr.mono (by decide)) (by rfl) (Xaa (pv 1) (Xaa (pv 0) Xae))))))) Xae))))),
  (Xan (sS_if (sT_or (sT_not (sT_b (sF_cb (cS_isi KV) (Xaj Xad (Xaj (Xaq sF_ty) Xap))))) (sT_test (Xao oS_ne (Xaq (sF_cb cS_len (Xaj Xad Xap))) (Xaq (sF_cb cS_len (Xaj (Xaq sF_gl) Xap)))))) (Xa1 (sO_f sF_bl)) sS_next)
   (Xa1 (sO_f (sF_cb cS_all (Xaj (Xaq (sF_o (sO_comp (sI_zipT (Xab Xaf (Xab sF_gl Xak))) (sG_tup (sGs_cons sG_name (sGs_cons sG_name sGs_nil))) (sO_f (sF_andV (sF_o (Xar (Xab Xaf Xak))) (sF_o (Xar (Xab Xaf (Xab Xaf Xak))))))))) Xap))))),?_⟩)
 rintro ds Pr ⟨f,rfl,ok,h⟩
 unfold lfD
 fin2
 have ez:List.map (λ(p:D×D)=>D.tup [p.fst,p.snd]) ([D.int f.h,D.int f.l,D.int f.r,D.int f.a,D.int f.s].zip [D.tup [D.int 0,D.int 1],D.tup [D.int (-8),D.int 8],D.tup [D.int (-8),D.int 8],D.tup [D.int (-64),D.int 64],D.tup [D.int 0,D.int 8]])=[(f.h,0,1),(f.l,-8,8),(f.r,-8,8),(f.a,-64,64),(f.s,0,8)].map trD:=rfl
 rw[ez]
 have hq:∀q∈[(f.h,(0:Int),(1:Int)),(f.l,-8,8),(f.r,-8,8),(f.a,-64,64),(f.s,0,8)],q.2.1<=q.1/\q.1<=q.2.2:=by
  intro q hq
  simp only[List.mem_cons,List.not_mem_nil,or_false]at hq
  have h1:=ok.h
  rcases hq with rfl |rfl |rfl |rfl |rfl
  .exact ⟨by show 0<=f.h;lia,by show f.h<=1;lia⟩
  .exact ok.l
  .exact ok.r
  .exact ok.a
  .exact ok.s
 generalize hqs:[(f.h,(0:Int),(1:Int)),(f.l,-8,8),(f.r,-8,8),(f.a,-64,64),(f.s,0,8)]=qs at hq
 have hql:qs.length<=5:=by rw[<- hqs];exact Nat.le_refl 5
 refine⟨λi δ ts=>∃o0 o1:Option Sl,δ=[o0,o1]/\ts=(qs.take i).map λ_=>.fz (.bl true),⟨none,none,rfl,rfl⟩,?_,?_⟩
 .rintro i d δ ts hd ⟨o0,o1,rfl,rfl⟩
  obtain⟨q,hq',rfl⟩:=mget hd
  have hb:=hq q (List.mem_of_getElem? hq')
  simp only[trD,gT,gsCons,gsNil,gN,List.length_cons,List.length_nil,Nat.reduceAdd,true_and,List.set_cons_succ,List.set_cons_zero]
  fin2
  refine⟨by rw[List.length_take];lia,_,rfl,rfl,?_⟩
  show if true=true then _ else _
  rw[if_pos rfl]
  refine⟨_,_,_,rfl,?_⟩
  rw[decide_eq_true hb.1,decide_eq_true hb.2]
  refine⟨some (Sl.own (OV.fz (D.int q.1))),some (Sl.own (OV.fz (D.tup [D.int q.2.1,D.int q.2.2]))),rfl,?_⟩
  rw[List.take_add_one,hq',List.map_append]
  rfl
 .rintro δ ts ⟨o0,o1,rfl,rfl⟩
  fin2
  refine⟨qs.map λ_=>true,by rw[List.take_length,List.map_map,List.map_map];rfl,?_⟩
  rw[show (qs.map λ_=>true).all id=true by simp]
  exact h
theorem ok_is_ladder {f:Addr}{fd:FuncData}(Df:DefAt K mg "is_ladder" s_is_ladder f fd)(B:BltV mg)(KV:KitV K)(g_MOST_LIFTS:∃t,mg "MOST_LIFTS"=some (.int 6 t))(c_is_lift:Cal P w K mg base "is_lift" 2 ["thing"] (spV K 1 sp_is_lift)):
  Cal P w K mg base "is_ladder" 3 ["thing"] (spV K 1 sp_is_ladder):=by
 refine CalV.of Df sc_is_ladder (by walk_at "b") rfl (λc A o s H E hr=>⟨_,_,(Xah (ps_if (pw_or (pt_not (pt_val (Xaw call_isiD (by rfl) B.isinstance boot_isinstance (Xaa (pv 0) (Xaa (pe_bltn (v:=.ty "tuple") (by rfl) B.tuple PyProof.Rows.boot_tuple (by rfl)) Xae))))) (pw_or1 (pt_cmpR op_gt (Xaw Xa3 (by rfl) B.len PySem.boot_len (Xaa (pv 0) Xae)) (Xam (by rfl) g_MOST_LIFTS) (nomark _)))).pt (Xai (Xas pe_bl)) pss_nil)
   (Xai (Xas (Xaw (call_allB rfl) (by rfl) B.all boot_all (Xaa (pe_comp rfl (pi_tup (pv 0)) (show BlkScope (Xac s_is_ladder) _ from⟨rfl,by decide +kernel,by decide +kernel,by decide +kernel⟩) (N:=["lift"]) (ix:=[none]) (show CapOf _ _ _ _ from trivial) (λ_ _ _=>(Xa6 (i:=0) (show List.Nodup (["lift"]:List Str) by decide +kernel) rfl (Or.inl rfl))) (λ_ _ _=>(Xav c_is_lift (hr.mono (by decide)) (by rfl) (Xaa (pv 0) Xae)))) Xae))))),
  (Xan (sS_if (sT_or (sT_not (sT_b (sF_cb (cS_isi KV) (Xaj Xad (Xaj (Xaq sF_ty) Xap))))) (sT_test (Xao oS_b0 (Xaq (sF_cb cS_len (Xaj Xad Xap))) (Xaq Xag)))) (Xa1 (sO_f sF_bl)) sS_next)
   (Xa1 (sO_f (sF_cb cS_all (Xaj (Xaq (sF_o (sO_comp (sI_tup Xaf) sG_name (Xar (Xab Xaf Xak))))) Xap))))),?_⟩)
 rintro ds Pr ⟨fs,rfl,hl,ok,h⟩
 unfold ladD
 fin2
 rw[if_neg (by lia)]
 refine CmpW.map fs lfD (λ_=>.fz (.bl true)) (by lia) (λf hf Q q=>?_) ?_
 .fin2
  exact⟨f,rfl,ok f hf,q⟩
 fin2
 refine⟨fs.map λ_=>true,by simp only[List.map_map,Function.comp_def,OV.val],?_⟩
 rw[show (fs.map λ_=>true).all id=true by simp]
 exact h
theorem ok_is_part {f:Addr}{fd:FuncData}(Df:DefAt K mg "is_part" s_is_part f fd)(B:BltV mg)(KV:KitV K)(g_NUMBER_SPANS:TupC K mg "NUMBER_SPANS" (D.tup [.tup [.int 1,.int 64],.tup [.int 1,.int 64],.tup [.int 0,.int 6],.tup [.int 0,.int 4000]]))(c_is_number:Cal P w K mg base "is_number" 1 ["thing"] (spV K 1 sp_is_number))(c_holds:Cal P w K mg base "holds" 1 ["one","number"] (spV K 2 sp_holds)):
  Cal P w K mg base "is_part" 2 ["thing","at"] (spV K 2 sp_is_part):=by
 refine CalV.of Df sc_is_part (by walk_at "b") rfl (λc A o s H E hr=>⟨_,_,(Xai (Xas (pe_and (Xav c_is_number (hr.mono (by decide)) (by rfl) (Xaa (pv 0) Xae)) (pe_one (Xav c_holds (hr.mono (by decide)) (by rfl) (Xaa (Xaz Xau (pe_globT (by rfl) g_NUMBER_SPANS) (pv 1) (λ_ _=>rfl)) (Xaa (pv 0) Xae))))))),
  (Xa1 (sO_f (sF_andV (sF_o (Xar (Xab Xaf Xak))) (sF_o (Xar (Xab (sF_opF Xat sF_gl Xaf) (Xab Xaf Xak))))))),?_⟩)
 rintro ds Pr ⟨n,rfl,hn,h⟩
 fin2
 refine⟨_,rfl,rfl,?_⟩
 show if true=true then _ else _
 rw[if_pos rfl]
 refine⟨0,6,n,rfl,?_⟩
 rw[decide_eq_true (by lia:(0:Int)<=n),decide_eq_true (by lia:(n:Int)<=6)]
 exact h
theorem ok_coded {f:Addr}{fd:FuncData}{T:Addr}{tk1:Tok}(Df:DefAtD K mg "coded" s_coded f fd T #[.none,.int 2 tk1])(B:BltV mg)(KV:KitV K)(g_LEVELS:∃t,mg "LEVELS"=some (.int 2 t))(c_is_picture:Cal P w K mg base "is_picture" 3 ["thing"] (spV K 1 sp_is_picture))(c_ladder_of:Cal P w K mg base "ladder_of" 1 ["name"] (spV K 1 sp_ladder_of))(c_is_ladder:Cal P w K mg base "is_ladder" 3 ["thing"] (spV K 1 sp_is_ladder))(c_is_part:Cal P w K mg base "is_part" 2 ["thing","at"] (spV K 2 sp_is_part))(c_laid:Cal P w K mg base "laid" 5 ["picture","ladder","levels"] (spV K 3 sp_laid))(c_places:Cal P w K mg base "places" 2 ["high","wide","levels"] (spV K 3 sp_places))(c_planes_of:Cal P w K mg base "planes_of" 2 ["some"] (spV K 1 sp_planes_of))(c_told:Cal P w K mg base "told" 5 ["some","planes"] (spV K 2 sp_told)):
  CalD P w K mg base "coded" 6 ["picture","ladder","levels"] (spV K 3 sp_coded) [.non,.int 2]:=by
 refine CalVD.of (ds:=[.none,.int 2 tk1]) Df sc_coded (λ_ _ _ _ _ _ us hl=>match us,hl with | [_,_,_],_=>⟨_,rfl,rfl⟩) (λ_ _ _ _ _ _ us hl=>by have hl':us.length=1:=(by simpa using hl);exact match us,hl' with | [_],_=>⟨_,rfl,rfl⟩) (.cons rfl (.cons ⟨_,rfl⟩ (.nil))) rfl (λc A o s H E hr=>⟨_,_,(Xah (ps_if (pt_not (pt_val (Xav c_is_picture (hr.mono (by decide)) (by rfl) (Xaa (pv 0) Xae)))) (Xai ps_never) pss_nil)
   (Xah (ps_set (i:=3) sc_coded.nd rfl (Or.inl rfl) (pe_ifExp (pt_cmpR op_isN (pv 1) pe_non (nomark _)) (Xav c_ladder_of (hr.mono (by decide)) (by rfl) (Xaa pe_str Xae)) (pv 1)))
   (Xah (ps_if (pt_not (pt_val (Xav c_is_ladder (hr.mono (by decide)) (by rfl) (Xaa (pv 3) Xae)))) (Xai ps_never) pss_nil)
   (Xah (ps_if (pt_not (pt_val (Xav c_is_part (hr.mono (by decide)) (by rfl) (Xaa (pv 2) (Xaa (Xam (by rfl) g_LEVELS) Xae))))) (Xai ps_never) pss_nil)
   (Xah (ps_set (i:=4) sc_coded.nd rfl (Or.inr rfl) (Xav c_laid (hr.mono (by decide)) (by rfl) (Xaa (pv 0) (Xaa (pv 3) (Xaa (pv 2) Xae)))))
   (Xah (ps_set (i:=5) sc_coded.nd rfl (Or.inl rfl) (Xaw Xa3 (by rfl) B.len PySem.boot_len (Xaa (pv 0) Xae)))
   (Xah (ps_set (i:=6) sc_coded.nd rfl (Or.inl rfl) (Xaw Xa3 (by rfl) B.len PySem.boot_len (Xaa (Xaz ix_list (pv 0) Xal (λ_ _=>rfl)) Xae)))
   (Xah (ps_setComp (i:=7) sc_coded.nd rfl (Or.inl rfl) rfl (pi_list (Xav c_places (hr.mono (by decide)) (by rfl) (Xaa (pv 5) (Xaa (pv 6) (Xaa (pv 2) Xae))))) (show BlkScope (Xac s_coded) _ from⟨rfl,by decide +kernel,by decide +kernel,by decide +kernel⟩) (N:=["i","j","wave"]) (ix:=[none,none,some 4]) (show CapOf _ _ _ _ from⟨⟨rfl,rfl,.inl rfl⟩,trivial⟩) (λ_ _ _=>(pg_tup (n:=2) rfl (pgs_cons (Xa6 (i:=0) (show List.Nodup (["i","j","wave"]:List Str) by decide +kernel) rfl (Or.inl rfl)) (pgs_cons (Xa6 (i:=1) (show List.Nodup (["i","j","wave"]:List Str) by decide +kernel) rfl (Or.inl rfl)) pgs_nil)))) (λ_ _ _=>(Xaz ix_list (Xaz ix_list (pv 2) (pv 0) (λ_ _=>rfl)) (pv 1) (λ_ _=>rfl))))
   (Xah (ps_set (i:=8) sc_coded.nd rfl (Or.inl rfl) (Xav c_planes_of (hr.mono (by decide)) (by rfl) (Xaa (pv 7) Xae)))
   (Xai (Xas (pe_tupS (Xaa (pe_tupS (Xaa (pv 5) (Xaa (pv 6) (Xaa (pv 2) (Xaa (pv 8) (Xaa (pv 3) Xae)))))) (Xaa (Xav c_told (hr.mono (by decide)) (by rfl) (Xaa (pv 7) (Xaa (pv 8) Xae))) Xae)))))))))))))),
  (Xan (sS_if (sT_not (sT_b (sF_o (Xar (Xab Xaf Xak))))) sS_never sS_next)
   (Xan (sS_set (sO_f (sF_if (sT_test (Xao oS_isN Xad (Xaq sF_non))) (sF_o (Xar (Xab sF_str Xak))) Xaf)))
   (Xan (sS_if (sT_not (sT_b (sF_o (Xar (Xab Xaf Xak))))) sS_never sS_next)
   (Xan (sS_if (sT_not (sT_b (sF_o (Xar (Xab Xaf (Xab Xag Xak)))))) sS_never sS_next)
   (Xan (sS_set (sO_f (sF_o (Xar (Xab Xaf (Xab Xaf (Xab Xaf Xak)))))))
   (Xan (sS_set (sO_f (sF_cb cS_len (Xaj Xad Xap))))
   (Xan (sS_set (sO_f (sF_cb cS_len (Xaj (sB_op (OpF.b oF_ixL) Xad (Xaq Xag)) Xap))))
   (Xan (sS_set (sO_f (sF_o (sO_comp (sI_list (sF_o (Xar (Xab Xaf (Xab Xaf (Xab Xaf Xak)))))) (sG_tup (sGs_cons sG_name (sGs_cons sG_name sGs_nil))) (sO_f (sF_opF oF_ixL (sF_opF oF_ixL Xaf Xaf) Xaf))))))
   (Xan (sS_set (sO_f (sF_o (Xar (Xab Xaf Xak)))))
   (Xa1 (sO_f (sF_tup (Xab (sF_tup (Xab Xaf (Xab Xaf (Xab Xaf (Xab Xaf (Xab Xaf Xak)))))) (Xab (sF_o (Xar (Xab Xaf (Xab Xaf Xak)))) Xak)))))))))))))),?_⟩)
 rintro ds Pr ⟨h,w,e,fs,L,b,rfl,hl,ok,hL,h0,hh,w0,hw,hb6,hb,he,hmul,k⟩
 gn_on
 refine⟨_,rfl,okP_sheet (by lia) (by lia),?_⟩
 have hpic:picD (shI h w e)=true:=by
  unfold shI
  rw[pic_sheet h0 w0,decide_eq_true hh,decide_eq_true hw]
  rfl
 rw[hpic]
 show if (!true)=true then _ else _
 rw[if_neg (by decide)]
 gp_on
 gn_on
 rw[if_neg (by unfold ladD;exact Bool.false_ne_true)]
 gp_on
 gn_on
 refine⟨fs,rfl,hl,ok,?_⟩
 show if (!true)=true then _ else _
 rw[if_neg (by decide)]
 gp_on
 gn_on
 refine⟨L,rfl,hL,?_⟩
 show if (!true)=true then _ else _
 rw[if_neg (by decide)]
 gp_on
 gn_on
 refine⟨h,w,e,fs,L,rfl,ok,hL,h0,by lia,by lia,?_⟩
 fin2
 rw[shT_val]
 gp_on
 unfold shI
 gn_on
 gp_on
 gn_on
 have hat:atI (shV D.int h w e) 0=some (.lst (tab w λj=>D.int (e 0 j))):=by
  unfold shV
  exact atI_tab (by decide) (by lia)
 have hlen:(shV D.int h w e).length=h:=by unfold shV;exact tab_len
 refine⟨_,hat,?_⟩
 fin2
 rw[hlen,tab_len]
 gp_on
 gn_on
 refine⟨h,w,L,rfl,⟨by lia,by lia,by lia⟩,?_⟩
 have hpl:=placesF_len (h:=h) (w:=w) (n:=L)
 have hmem:∀p∈placesF h w L,(0<=p.1/\p.1<h)/\0<=p.2/\p.2<w:=λp hp=>placesF_mem hp
 have hbd:=lay_bd ok (h:=h) (w:=w) hb6 he L
 have hhw:h*w<=4096:=Nat.mul_le_mul hh hw
 have hhw0:0<h*w:=Nat.mul_pos h0 w0
 fin2
 have ev:List.map OV.val (List.map (λp=>OV.fz (ptD p)) (placesF h w L))=(placesF h w L).map ptD:=by rw[List.map_map];rfl
 rw[ev]
 unfold numsF at k
 generalize hlay:layF 0 (λk=>raiseF fs ((2^k:Nat):Int)) h w L e=ly at k hbd
 generalize placesF h w L=ps at k hpl hmem
 refine⟨λi δ ts=>∃o0 o1:Option Sl,δ=[o0,o1,vD (.lst (shV D.int h w ly))]/\ts=(ps.take i).map λp=>.fz (.int (ly p.1.toNat p.2.toNat)),⟨none,none,rfl,rfl⟩,?_,?_⟩
 .rintro i d δ ts hd ⟨o0,o1,rfl,rfl⟩
  obtain⟨p,hp,rfl⟩:=mget hd
  have hi:=(List.getElem?_eq_some_iff.mp hp).1
  obtain⟨⟨p0,p1⟩,p2,p3⟩:=hmem p (List.mem_of_getElem? hp)
  simp only[ptD,gT,gsCons,gsNil,gN,List.length_cons,List.length_nil,Nat.reduceAdd,true_and,List.set_cons_succ,List.set_cons_zero]
  fin2
  have hr1:atI (shV D.int h w ly) p.1=some (.lst (tab w λj=>D.int (ly p.1.toNat j))):=by unfold shV;exact atI_tab p0 p1
  refine⟨by rw[List.length_take];lia,_,hr1,?_⟩
  refine⟨_,atI_tab p2 p3,?_⟩
  refine⟨some (Sl.own (OV.fz (D.int p.1))),some (Sl.own (OV.fz (D.int p.2))),rfl,?_⟩
  rw[List.take_add_one,hp,List.map_append]
  rfl
 .rintro δ ts ⟨o0,o1,rfl,rfl⟩
  rw[List.length_map,List.take_length]
  fin2
  have exs:(List.map OV.val (ps.map λp=>OV.fz (.int (ly p.1.toNat p.2.toNat))))=(ps.map λp=>ly p.1.toNat p.2.toNat).map D.int:=by rw[List.map_map,List.map_map];rfl
  rw[exs]
  have hxl:(ps.map λp=>ly p.1.toNat p.2.toNat).length=h*w:=by rw[List.length_map,hpl]
  have hxb:∀x∈(ps.map λp=>ly p.1.toNat p.2.toNat),ibN x<=b+10*fs.length*L+1:=λx hx=>by
   obtain⟨p,_,rfl⟩:=List.mem_map.mp hx
   have h1:=hbd p.1.toNat p.2.toNat
   have h2:=p2succ (b+10*fs.length*L)
   have h3:=p2pos (b+10*fs.length*L)
   exact ibN_lt (by lia) (by lia)
  generalize (ps.map λp=>ly p.1.toNat p.2.toNat)=xs at k hxl hxb
  gp_on
  gn_on
  refine⟨xs,rfl,by lia,by lia,λn hn1 hn2=>?_⟩
  gp_on
  have hn0:n<=b+10*fs.length*L+1:=by
   obtain⟨x,hx,e⟩:=hn1
   rw[<- e];exact hxb x hx
  have h360:10*fs.length*L<=360:=by
   have:=Nat.mul_le_mul (Nat.mul_le_mul_left 10 hl) hL
   lia
  have hlt:∀x∈xs,x.natAbs<2^n:=λx hx=>Nat.lt_of_not_le λz=>by
   have:=ib_lt.mp z
   have:=hn2 x hx
   lia
  obtain⟨q1,q2,q3,q4⟩:=start_facts xs.length n
  obtain⟨bs,v,t1,t2,t3,t4,t5,t6,t7⟩:=tell_run (xs:=xs) rfl (by lia) (by lia) _ _ (Nat.le_refl _) (start_shape (by lia) n) (start_comp hlt) (by lia) (by rw[q2,List.length_nil];lia)
  have hbs:bs.length<=900000:=by
   have:3*xs.length*n<=3*(h*w)*(b+10*fs.length*L+1):=by rw[hxl];exact Nat.mul_le_mul_left _ hn0
   lia
  fin2
  refine⟨xs,n,bs,rfl,by lia,by lia,hbs,t1,?_⟩
  exact k n bs v hn1 hn2 hn0 t1 t2 t3 t4 t5 (by rw[t7,q3];lia) hbs
abbrev s_law_cell_at:Stmt:=top 87
theorem sc_law_cell_at:FnScope ["_law_script","_law_k"] ["_law_script","_law_k"] (Xac s_law_cell_at):=by walk_at "S"
def sp_law_cell_at:DSp:=λds P=>∃(ns:List Int) (k:Int),ds=[.lst (ns.map .int),.int k]/\0<=k/\P (.fz (.int (ns.getD k.toNat 0)))
theorem ok_law_cell_at {f:Addr}{fd:FuncData}(Df:DefAt K mg "_law_cell_at" s_law_cell_at f fd)(B:BltV mg)(KV:KitV K):
  Cal P w K mg base "_law_cell_at" 1 ["_law_script","_law_k"] (spV K 2 sp_law_cell_at):=by
 refine CalV.of Df sc_law_cell_at (by walk_at "b") rfl (λc A o s H E hr=>⟨_,_,(Xah (ps_if (pt_cmpR op_lt (pv 1) (Xaw Xa3 (by rfl) B.len PySem.boot_len (Xaa (pv 0) Xae)) (nomark _)) (Xai (Xas (Xaz ix_list (pv 0) (pv 1) (λ_ _=>rfl)))) pss_nil)
   (Xai (Xas Xal))),
  (Xan (sS_if (sT_test (Xao oS_b0 Xad (Xaq (sF_cb cS_len (Xaj Xad Xap))))) (Xa1 (sO_f (sF_opF oF_ixL Xaf Xaf))) sS_next)
   (Xa1 (sO_f Xag))),?_⟩)
 rintro ds Pr ⟨ns,k,rfl,h0,q⟩
 fin2
 split
 .rename_i h
  exact⟨_,atI_ints h0 h,q⟩
 .rename_i h
  have e:ns.getD k.toNat 0=0:=by
   have hk:ns.length<=k.toNat:=by lia
   simp[List.getD,List.getElem?_eq_none hk]
  rw[e]at q
  exact q
abbrev hdD (h w L n:Nat)(fs:List Lf):D:=.tup [.int h,.int w,.int L,.int n,ladD fs]
def sp_head_places:DSp:=λds P=>∃(h w L n:Nat) (fs:List Lf),ds=[hdD h w L n fs]/\(h<=100/\w<=100/\L<=100)/\P (.nl ((placesF h w L).map λp=>.fz (ptD p)))
abbrev s_head_places:Stmt:=top 76
theorem sc_head_places:FnScope ["head"] ["head"] (Xac s_head_places):=by walk_at "S"
theorem ok_head_places {f:Addr}{fd:FuncData}(Df:DefAt K mg "head_places" s_head_places f fd)(B:BltV mg)(KV:KitV K)(g_HIGH:∃t,mg "HIGH"=some (.int 0 t))(g_WIDE:∃t,mg "WIDE"=some (.int 1 t))(g_LEVELS:∃t,mg "LEVELS"=some (.int 2 t))(c_places:Cal P w K mg base "places" 2 ["high","wide","levels"] (spV K 3 sp_places)):
  Cal P w K mg base "head_places" 3 ["head"] (spV K 1 sp_head_places):=by
 refine CalV.of Df sc_head_places (by walk_at "b") rfl (λc A o s H E hr=>⟨_,_,(Xai (Xas (Xav c_places (hr.mono (by decide)) (by rfl) (Xaa (Xaz Xau (pv 0) (Xam (by rfl) g_HIGH) (λ_ _=>rfl)) (Xaa (Xaz Xau (pv 0) (Xam (by rfl) g_WIDE) (λ_ _=>rfl)) (Xaa (Xaz Xau (pv 0) (Xam (by rfl) g_LEVELS) (λ_ _=>rfl)) Xae)))))),
  (Xa1 (Xar (Xab (sF_opF Xat Xaf Xag) (Xab (sF_opF Xat Xaf Xag) (Xab (sF_opF Xat Xaf Xag) Xak))))),?_⟩)
 rintro ds Pr ⟨h,w,L,n,fs,rfl,hb,k⟩
 fin2
 exact⟨h,w,L,rfl,hb,k⟩
theorem keyLt_ne {n:Nat}{p q:Int×Int}(h:keyLt n p q):p≠q:=λz=>by
 subst z
 unfold keyLt keyF at h
 simp[HT.lexLt]at h
theorem placesF_nd {h w n:Nat}:(placesF h w n).Nodup:=placesF_pw.imp keyLt_ne
theorem placesF_all {h w n:Nat}{p:Int×Int}(hp:(0<=p.1/\p.1<h)/\0<=p.2/\p.2<w):p∈placesF h w n:=by
 unfold placesF
 refine List.mem_flatten.mpr ⟨grp n (allF h w) (lvF n p),List.mem_reverse.mpr (List.mem_map.mpr ⟨lvF n p,List.mem_range.mpr (Nat.lt_succ_of_le (lvl_le _ _ _)),rfl⟩),?_⟩
 exact List.mem_filter.mpr ⟨mem_all.mpr hp,by simp⟩
def plIx (h w L i j:Nat):Nat:=(placesF h w L).idxOf ((i:Int),(j:Int))
theorem plIx_lt {h w L i j:Nat}(hi:i<h)(hj:j<w):plIx h w L i j<(placesF h w L).length:=
 List.idxOf_lt_length_of_mem (placesF_all (p:=((i:Int),(j:Int))) ⟨⟨by dsimp only;lia,by dsimp only;lia⟩,by dsimp only;lia,by dsimp only;lia⟩)
theorem plIx_get {h w L i j:Nat}(hi:i<h)(hj:j<w):(placesF h w L)[plIx h w L i j]?=some ((i:Int),(j:Int)):=by
 rw[List.getElem?_eq_getElem (plIx_lt hi hj)]
 exact congrArg some (List.getElem_idxOf (plIx_lt hi hj))
theorem plIx_of {h w L i j k:Nat}(hi:i<h)(hj:j<w)(hk:(placesF h w L)[k]?=some ((i:Int),(j:Int))):plIx h w L i j=k:=by
 have h1:=plIx_get (L:=L) hi hj
 exact (List.getElem?_inj (plIx_lt hi hj) placesF_nd).mp (h1.trans hk.symm)
theorem ixN_at {n:Nat}{i:Int}(h0:0<=i)(h:i<n):ixN n i=some i.toNat:=by
 unfold ixN
 rw[if_pos h0]
 try rw[if_pos (by omega)]
def shO (h w:Nat)(e:Nat->Nat->D):List OV:=tab h λi=>.nl (tab w λj=>.fz (e i j))
theorem shO_put {h w a b:Nat}{e:Nat->Nat->D}{d:D}:(shO h w e).set a (.nl ((tab w λj=>OV.fz (e a j)).set b (.fz d)))=shO h w λi j=>if i=a/\j=b then d else e i j:=by
 unfold shO
 rw[tab_set]
 refine tab_ext λi hi=>?_
 by_cases q:i=a
 .subst q
  rw[if_pos rfl,tab_set]
  congr 1
  refine tab_ext λj hj=>?_
  dsimp only
  by_cases y:j=b
  .rw [if_pos y,if_pos ⟨rfl,y⟩]
  .rw [if_neg y,if_neg (λz=>y z.2)]
 .rw [if_neg q]
  congr 1
  refine tab_ext λj hj=>?_
  dsimp only
  rw[if_neg (λz=>q z.1)]
theorem shO_ext {h w:Nat}{e e':Nat->Nat->D}(q:∀i j,i<h->j<w->e i j=e' i j):shO h w e=shO h w e':=
 tab_ext λi hi=>congrArg OV.nl (tab_ext λj hj=>congrArg OV.fz (q i j hi hj))
theorem zipT_len {xs:List (Int×Int)}{ys:List Sp2}(e:xs.length=ys.length):(((xs.map ptD).zip (ys.map spD)).map λp=>D.tup [p.1,p.2]).length=ys.length:=by
 rw[List.length_map,List.length_zip,List.length_map,List.length_map,e,Nat.min_self]
def sp_sheet_of:DSp:=λds P=>∃(h w L n:Nat) (fs:List Lf) (vs:List Sp2),ds=[hdD h w L n fs,.lst (vs.map spD)]/\(h<=100/\w<=100/\L<=100)/\vs.length=h*w/\P (.nl (shT spD h w λi j=>vs.getD (plIx h w L i j) (0,0)))
abbrev s_sheet_of:Stmt:=top 79
theorem sc_sheet_of:FnScope ["head","spans","sheet","place","thing"] ["head","spans"] (Xac s_sheet_of):=by walk_at "S"
theorem ok_sheet_of {f:Addr}{fd:FuncData}(Df:DefAt K mg "sheet_of" s_sheet_of f fd)(B:BltV mg)(KV:KitV K)(g_WIDE:∃t,mg "WIDE"=some (.int 1 t))(g_HIGH:∃t,mg "HIGH"=some (.int 0 t))(c_head_places:Cal P w K mg base "head_places" 3 ["head"] (spV K 1 sp_head_places)):
  Cal P w K mg base "sheet_of" 4 ["head","spans"] (spV K 2 sp_sheet_of):=by
 refine CalV.of Df sc_sheet_of (by walk_at "b") rfl (λc A o s H E hr=>⟨_,_,(Xah (ps_setComp (i:=2) sc_sheet_of.nd rfl (Or.inl rfl) rfl (pi_range1 (by rfl) (by exact B.range) (Xaa (Xaz Xau (pv 0) (Xam (by rfl) g_HIGH) (λ_ _=>rfl)) Xae)) (show BlkScope (Xac s_sheet_of) _ from⟨rfl,by decide +kernel,by decide +kernel,by decide +kernel⟩) (N:=["i","head"]) (ix:=[none,some 0]) (show CapOf _ _ _ _ from⟨⟨rfl,rfl,.inl rfl⟩,trivial⟩) (λ_ _ _=>(Xa6 (i:=0) (show List.Nodup (["i","head"]:List Str) by decide +kernel) rfl (Or.inl rfl))) (λ_ _ _=>(Xay op_rep (pe_lstS (Xaa pe_non Xae)) (Xaz Xau (pv 1) (Xam (by rfl) g_WIDE) (λ_ _=>rfl)))))
   (Xah (ps_for PassesOwn.never rfl (pi_zip rfl B.zip (Xaa (Xav c_head_places (hr.mono (by decide)) (by rfl) (Xaa (pv 0) Xae)) (Xaa (pv 1) Xae))) (pg_tup (n:=2) rfl (pgs_cons (Xa6 (i:=3) sc_sheet_of.nd rfl (Or.inl rfl)) (pgs_cons (Xa6 (i:=4) sc_sheet_of.nd rfl (Or.inl rfl)) pgs_nil))) (Xai (ps_asg (pv 4) (pg_sub (Xaz ix_list (pv 2) (Xaz Xau (pv 3) Xal (λ_ _=>rfl)) (λ_ _=>rfl)) (Xaz Xau (pv 3) Xal (λ_ _=>rfl)) set_list))))
   (Xai (Xas (pv 2))))),
  (Xan (sS_set (sO_comp (sI_rng1 (Xaj (sB_op (OpF.b Xat) Xad (Xaq Xag)) Xap)) sG_name (sO_rep1 (sO_lst (sAO_cons (sO_f sF_non) sAO_nil)) (sB_op (OpF.b Xat) Xad (Xaq Xag)))))
   (Xan (sS_for (sI_zip (Xab (sF_o (Xar (Xab Xaf Xak))) (Xab Xaf Xak))) (sG_tup (sGs_cons sG_name (sGs_cons sG_name sGs_nil))) (sS_put2 Xaf (sB_op (OpF.b Xat) Xad (Xaq Xag)) (sB_op (OpF.b Xat) Xad (Xaq Xag))))
   sS_retV)),?_⟩)
 rintro ds Pr ⟨h,w,L,n,fs,vs,rfl,hb,hl,k⟩
 obtain⟨hh,hw,hL⟩:=hb
 gn_on
 refine⟨⟨by lia,by lia⟩,?_⟩
 refine CmpW.rng (λ_=>.nl (List.replicate w (.fz .non))) (by lia) (λi _ Q q=>?_) ?_
 .fin2
  exact⟨⟨by lia,by lia⟩,q⟩
 have e0:(List.range (h:Int).toNat).map (λ_=>OV.nl (List.replicate w (.fz .non)))=shO h w λi j=>if plIx h w L i j<0 then spD (vs.getD (plIx h w L i j) (0,0)) else .non:=by
  show tab h _=_
  refine tab_ext λi _=>?_
  dsimp only
  congr 1
  have:∀j:Nat,(if plIx h w L i j<0 then spD (vs.getD (plIx h w L i j) (0,0)) else D.non) = .non:=λj=>if_neg (Nat.not_lt_zero _)
  simp only[this]
  unfold tab
  rw[List.map_const',List.length_range]
 rw[e0]
 gp_on
 gn_on
 refine⟨h,w,L,n,fs,rfl,⟨hh,hw,hL⟩,?_⟩
 fin2
 have ev:List.map OV.val (List.map (λp=>OV.fz (ptD p)) (placesF h w L))=(placesF h w L).map ptD:=by rw[List.map_map];rfl
 rw[ev]
 have hpl:=placesF_len (h:=h) (w:=w) (n:=L)
 have hzl:=zipT_len (xs:=placesF h w L) (ys:=vs) (by lia)
 refine⟨λm δ=>∃o3 o4:Option Sl,δ=[vD (hdD h w L n fs),vD (.lst (vs.map spD)),some (.own (.nl (shO h w λi j=>if plIx h w L i j<m then spD (vs.getD (plIx h w L i j) (0,0)) else .non))),o3,o4],⟨none,none,rfl⟩,?_,?_⟩
 .rintro m d δ hd ⟨o3,o4,rfl⟩
  obtain⟨z,hz,rfl⟩:=mget hd
  rw[List.getElem?_zip_eq_some,List.getElem?_map,List.getElem?_map]at hz
  obtain⟨hz1,hz2⟩:=hz
  obtain⟨p,hp,hp2⟩:=Option.map_eq_some_iff.mp hz1
  obtain⟨s,hs,hs2⟩:=Option.map_eq_some_iff.mp hz2
  rw[<- hp2,<- hs2]
  obtain⟨⟨p0,p1⟩,p2,p3⟩:=placesF_mem (List.mem_of_getElem? hp)
  have hsD:vs.getD m (0,0)=s:=by rw[List.getD_eq_getElem?_getD,hs];rfl
  simp only[gT,gsCons,gsNil,gN,List.length_cons,List.length_nil,Nat.reduceAdd,true_and,List.set_cons_succ,List.set_cons_zero]
  unfold ptD
  fin2
  have hlen:(shO h w λi j=>if plIx h w L i j<m then spD (vs.getD (plIx h w L i j) (0,0)) else .non).length=h:=tab_len
  refine⟨p.1.toNat,tab w λj=>.fz (if plIx h w L p.1.toNat j<m then spD (vs.getD (plIx h w L p.1.toNat j) (0,0)) else .non),by rw[hlen];exact ixN_at p0 p1,tab_get (by lia),p.2.toNat,by rw[tab_len];exact ixN_at p2 p3,?_⟩
  have hpe:p=(((p.1.toNat:Nat):Int),((p.2.toNat:Nat):Int)):=Prod.ext (by dsimp only;lia) (by dsimp only;lia)
  have hput:=shO_put (h:=h) (w:=w) (a:=p.1.toNat) (b:=p.2.toNat) (e:=λi j=>if plIx h w L i j<m then spD (vs.getD (plIx h w L i j) (0,0)) else .non) (d:=spD s)
  have hst:(shO h w λi j=>if i=p.1.toNat/\j=p.2.toNat then spD s else if plIx h w L i j<m then spD (vs.getD (plIx h w L i j) (0,0)) else .non)=shO h w λi j=>if plIx h w L i j<m+1 then spD (vs.getD (plIx h w L i j) (0,0)) else .non:=shO_ext λi j hi hj=>by
   by_cases z:i=p.1.toNat/\j=p.2.toNat
   .obtain ⟨rfl,rfl⟩:=z
    have hx:=plIx_of (L:=L) (k:=m) hi hj (by rw[<- hpe];exact hp)
    rw[if_pos ⟨rfl,rfl⟩,hx,if_pos (by lia),hsD]
   .rw [if_neg z]
    have hne:plIx h w L i j≠m:=λq=>by
     have h1:=plIx_get (L:=L) hi hj
     rw[q,hp]at h1
     have h2:=Option.some.inj h1
     exact z ⟨by rw[h2];rfl,by rw[h2];rfl⟩
    by_cases y:plIx h w L i j<m
    .rw [if_pos y,if_pos (by lia)]
    .rw [if_neg y,if_neg (by lia)]
  rw[<- hst,<- hput]
  exact⟨_,_,rfl⟩
 .rintro δ ⟨o3,o4,rfl⟩
  rw[hzl]
  gp_on
  fin2
  have ee:(shO h w λi j=>if plIx h w L i j<vs.length then spD (vs.getD (plIx h w L i j) (0,0)) else .non)=shT spD h w λi j=>vs.getD (plIx h w L i j) (0,0):=by
   show shO h w _=shO h w _
   refine shO_ext λi j hi hj=>?_
   have:=plIx_lt (L:=L) hi hj
   rw[if_pos (by lia)]
  rw[ee]
  exact k
def sp_level:DSp:=λds P=>∃(h w L n k:Nat) (fs:List Lf) (vs:List Sp2),ds=[hdD h w L n fs,.lst (vs.map spD),.int k]/\(∀f∈fs,f.Ok)/\(0<h/\h<=100/\w<=100/\L<=6)/\k<=L/\vs.length=h*w/\
 P (.nl (shT spD (rngN 0 h (2^k:Nat)) (rngN 0 w (2^k:Nat)) λi j=>openF (0,0) (λk=>gLower (0,0) sDown fs (2^k:Nat)) h w L k (λi j=>vs.getD (plIx h w L i j) (0,0)) (i*2^k) (j*2^k)))
abbrev s_level:Stmt:=top 81
theorem sc_level:FnScope ["head","spans","k"] ["head","spans","k"] (Xac s_level):=by walk_at "S"
theorem ok_level {f:Addr}{fd:FuncData}(Df:DefAt K mg "level" s_level f fd)(B:BltV mg)(KV:KitV K)(g_LADDER:∃t,mg "LADDER"=some (.int 4 t))(g_LEVELS:∃t,mg "LEVELS"=some (.int 2 t))(c_holds:Cal P w K mg base "holds" 1 ["one","number"] (spV K 2 sp_holds))(c_thinned:Cal P w K mg base "thinned" 1 ["sheet","k"] (spV K 2 sp_thinned))(c_opened_spans:CalD P w K mg base "opened_spans" 6 ["sheet","ladder","levels","down"] (spV K 4 sp_opened_spans) [.int 0])(c_sheet_of:Cal P w K mg base "sheet_of" 4 ["head","spans"] (spV K 2 sp_sheet_of)):
  Cal P w K mg base "level" 7 ["head","spans","k"] (spV K 3 sp_level):=by
 refine CalV.of Df sc_level (by walk_at "b") rfl (λc A o s H E hr=>⟨_,_,(Xah (ps_if (pt_not (pt_val (Xav c_holds (hr.mono (by decide)) (by rfl) (Xaa (pe_tupS (Xaa Xal (Xaa (Xaz Xau (pv 0) (Xam (by rfl) g_LEVELS) (λ_ _=>rfl)) Xae))) (Xaa (pv 2) Xae))))) (Xai ps_never) pss_nil)
   (Xai (Xas (Xav c_thinned (hr.mono (by decide)) (by rfl) (Xaa (Xav c_opened_spans.cal (hr.mono (by decide)) (by rfl) (Xaa (Xav c_sheet_of (hr.mono (by decide)) (by rfl) (Xaa (pv 0) (Xaa (pv 1) Xae))) (Xaa (Xaz Xau (pv 0) (Xam (by rfl) g_LADDER) (λ_ _=>rfl)) (Xaa (Xaz Xau (pv 0) (Xam (by rfl) g_LEVELS) (λ_ _=>rfl)) (Xaa (pv 2) Xae))))) (Xaa (pv 2) Xae)))))),
  (Xan (sS_if (sT_not (sT_b (sF_o (Xar (Xab (sF_tup (Xab Xag (Xab (sF_opF Xat Xaf Xag) Xak))) (Xab Xaf Xak)))))) sS_never sS_next)
   (Xa1 (Xar (Xab (sF_o (Xar (Xab (sF_o (Xar (Xab Xaf (Xab Xaf Xak)))) (Xab (sF_opF Xat Xaf Xag) (Xab (sF_opF Xat Xaf Xag) (Xab Xaf Xak)))))) (Xab Xaf Xak))))),?_⟩)
 rintro ds Pr ⟨h,w,L,n,k,fs,vs,rfl,ok,hb,hk,hl,hP⟩
 obtain⟨h0,hh,hw,hL⟩:=hb
 gn_on
 refine⟨0,L,k,rfl,?_⟩
 rw[decide_eq_true (by lia:(0:Int)<=k),decide_eq_true (by lia:(k:Int)<=L)]
 show if (!true)=true then _ else _
 rw[if_neg (by decide)]
 gp_on
 fin2
 refine⟨h,w,L,n,fs,vs,rfl,⟨hh,hw,by lia⟩,hl,?_⟩
 fin2
 rw[shT_val]
 refine⟨h,w,_,fs,L,k,rfl,ok,hL,by lia,h0,by lia,by lia,?_⟩
 fin2
 rw[shT_val]
 exact⟨Sp2,spD,h,w,k,_,rfl,by lia,by lia,by lia,hP⟩
def seenF (h w L:Nat)(fs:List Lf)(u:Wk):Nat->Nat->Sp2:=openF (0,0) (λk=>gLower (0,0) sDown fs (2^k:Nat)) h w L 0 λi j=>(spansQ u).getD (plIx h w L i j) (0,0)
theorem spans_Q (u:Wk):spansOf u=(spansQ u).map spD:=by
 unfold spansOf spansQ
 rw[List.map_flatMap]
 simp only[List.map_replicate]
 rfl
abbrev wk0 (m n:Nat):Wk:=Wk.turn ⟨n,0,[],[⟨0,0,m,1-2^n,2^n-1⟩],[]⟩
theorem nums_len {h w L:Nat}{e:Nat->Nat->Int}{fs:List Lf}:(numsF h w e fs L).length=h*w:=by
 unfold numsF
 rw[List.length_map,placesF_len]
def sp_breadth:DSp:=λds P=>∃s:Sp2,ds=[spD s]/\P (.fz (.int (s.2-s.1)))
abbrev s_breadth:Stmt:=top 12
theorem sc_breadth:FnScope ["one"] ["one"] (Xac s_breadth):=by walk_at "S"
theorem ok_breadth {f:Addr}{fd:FuncData}(Df:DefAt K mg "breadth" s_breadth f fd)(B:BltV mg)(KV:KitV K):
  Cal P w K mg base "breadth" 1 ["one"] (spV K 1 sp_breadth):=by
 refine CalV.of Df sc_breadth (by walk_at "b") rfl (λc A o s H E hr=>⟨_,_,(Xai (Xas (Xay op_sub (Xaz Xau (pv 0) Xal (λ_ _=>rfl)) (Xaz Xau (pv 0) Xal (λ_ _=>rfl))))),
  (Xa1 (sO_f (Xao oS_i0 (sB_op (OpF.b Xat) Xad (Xaq Xag)) (sB_op (OpF.b Xat) Xad (Xaq Xag))))),?_⟩)
 rintro ds Pr ⟨s,rfl,h⟩
 unfold spD
 fin2
 exact h
def sp_broadest:DSp:=λds P=>∃xs:List Sp2,ds=[.lst (xs.map spD)]/\0<xs.length/\xs.length<=1000/\∀M:Int,(∃s∈xs,s.2-s.1=M)->(∀s∈xs,s.2-s.1<=M)->P (.fz (.int M))
abbrev s_broadest:Stmt:=top 13
theorem sc_broadest:FnScope ["some"] ["some"] (Xac s_broadest):=by walk_at "S"
theorem ok_broadest {f:Addr}{fd:FuncData}(Df:DefAt K mg "broadest" s_broadest f fd)(B:BltV mg)(KV:KitV K)(c_breadth:Cal P w K mg base "breadth" 1 ["one"] (spV K 1 sp_breadth)):
  Cal P w K mg base "broadest" 2 ["some"] (spV K 1 sp_broadest):=by
 refine CalV.of Df sc_broadest (by walk_at "b") rfl (λc A o s H E hr=>⟨_,_,(Xai (Xas (Xaw (call_maxL rfl) (by rfl) B.max boot_max (Xaa (pe_comp rfl (pi_list (pv 0)) (show BlkScope (Xac s_broadest) _ from⟨rfl,by decide +kernel,by decide +kernel,by decide +kernel⟩) (N:=["one"]) (ix:=[none]) (show CapOf _ _ _ _ from trivial) (λ_ _ _=>(Xa6 (i:=0) (show List.Nodup (["one"]:List Str) by decide +kernel) rfl (Or.inl rfl))) (λ_ _ _=>(Xav c_breadth (hr.mono (by decide)) (by rfl) (Xaa (pv 0) Xae)))) Xae)))),
  (Xa1 (sO_f (sF_cb cS_maxL (Xaj (Xaq (sF_o (sO_comp (sI_list Xaf) sG_name (Xar (Xab Xaf Xak))))) Xap)))),?_⟩)
 rintro ds Pr ⟨xs,rfl,x0,hx,h⟩
 fin2
 refine CmpW.map xs spD (λs=>.fz (.int (s.2-s.1))) (by lia) (λs _ Q q=>?_) ?_
 .fin2
  exact⟨s,rfl,q⟩
 fin2
 refine⟨xs.map λs=>s.2-s.1,by simp only[List.map_map,Function.comp_def,OV.val],by simpa using x0,λM hM hA=>?_⟩
 obtain⟨s,hs,e⟩:=List.mem_map.mp hM
 exact h M ⟨s,hs,e⟩ λt ht=>hA _ (List.mem_map.mpr ⟨t,ht,rfl⟩)
def sp_walk_of:DSp:=λds P=>∃(h w L n:Nat) (fs:List Lf) (bs:List Bool) (v:Wk),ds=[hdD h w L n fs,.str (strOf bs)]/\h<=100/\n<=5000/\Fol (Wk.turn ⟨n,0,[],[⟨0,0,h*w,1-2^n,2^n-1⟩],[]⟩) bs v/\P (.ob none "Walk" Xa2 v.ts)
abbrev s_walk_of:Stmt:=top 77
theorem sc_walk_of:FnScope ["head","bits"] ["head","bits"] (Xac s_walk_of):=by walk_at "S"
theorem ok_walk_of {f:Addr}{fd:FuncData}(Df:DefAt K mg "walk_of" s_walk_of f fd)(B:BltV mg)(KV:KitV K)(g_PLANES:∃t,mg "PLANES"=some (.int 3 t))(g_HIGH:∃t,mg "HIGH"=some (.int 0 t))(g_WIDE:∃t,mg "WIDE"=some (.int 1 t))(c_followed:Cal P w K mg base "followed" 6 ["bits","many","planes"] (spV K 3 sp_followed)):
  Cal P w K mg base "walk_of" 7 ["head","bits"] (spV K 2 sp_walk_of):=by
 refine CalV.of Df sc_walk_of (by walk_at "b") rfl (λc A o s H E hr=>⟨_,_,(Xai (Xas (Xav c_followed (hr.mono (by decide)) (by rfl) (Xaa (pv 1) (Xaa (Xay op_mul (Xaz Xau (pv 0) (Xam (by rfl) g_HIGH) (λ_ _=>rfl)) (Xaz Xau (pv 0) (Xam (by rfl) g_WIDE) (λ_ _=>rfl))) (Xaa (Xaz Xau (pv 0) (Xam (by rfl) g_PLANES) (λ_ _=>rfl)) Xae)))))),
  (Xa1 (Xar (Xab Xaf (Xab (Xao oS_i (sB_op (OpF.b Xat) Xad (Xaq Xag)) (sB_op (OpF.b Xat) Xad (Xaq Xag))) (Xab (sF_opF Xat Xaf Xag) Xak))))),?_⟩)
 rintro ds Pr ⟨h,w,L,n,fs,bs,v,rfl,hh,hn,F,k⟩
 fin2
 exact⟨.inl ⟨by lia,by lia⟩,bs,_,n,v,rfl,hn,F,k⟩
def brd (h w:Nat)(e:Nat->Nat->Sp2)(M:Int):Prop:=(∃i j,i<h/\j<w/\(e i j).2-(e i j).1=M)/\∀i j,i<h->j<w->(e i j).2-(e i j).1<=M
theorem brd_uniq {h w:Nat}{e:Nat->Nat->Sp2}{M M':Int}(a:brd h w e M)(b:brd h w e M'):M=M':=by
 obtain⟨⟨i,j,hi,hj,h1⟩,h2⟩:=a
 obtain⟨⟨i',j',hi',hj',h3⟩,h4⟩:=b
 have:=h2 i' j' hi' hj'
 have:=h4 i j hi hj
 lia
theorem row_max (f:Nat->Int):∀w,0<w->∃M,(∃j,j<w/\f j=M)/\∀j,j<w->f j<=M
 | 0,h=>absurd h (by decide)
 | 1,_=>⟨f 0,⟨0,by decide,rfl⟩,λj hj=>by rw[show j=0 by lia];exact Int.le_refl _⟩
 |w + 2,_=>by
  obtain⟨M,⟨j,hj,e⟩,hM⟩:=row_max f (w+1) (by lia)
  by_cases z:f (w+1)<=M
  .exact ⟨M,⟨j,by lia,e⟩,λi hi=>by
    by_cases y:i=w+1
    .rw [y];exact z
    .exact hM i (by lia)⟩
  .exact ⟨f (w+1),⟨w+1,by lia,rfl⟩,λi hi=>by
    by_cases y:i=w+1
    .rw [y];exact Int.le_refl _
    .have:=hM i (by lia);lia⟩
def sp_broad:DSp:=λds P=>∃(h w L n:Nat) (fs:List Lf) (bs:List Bool) (c:Nat) (u:Wk),ds=[hdD h w L n fs,.str (strOf bs),.int c]/\(∀f∈fs,f.Ok)/\(0<h/\h<=100/\0<w/\w<=100/\L<=6)/\n<=5000/\bs.length<=1000000/\c<=bs.length/\
 Fol (wk0 (h*w) n) (bs.take c) u/\Shp (h*w:Nat) u/\∀M:Int,brd h w (seenF h w L fs u) M->P (.fz (.int M))
abbrev s_broad:Stmt:=top 83
theorem sc_broad:FnScope ["head","bits","many","spans"] ["head","bits","many"] (Xac s_broad):=by walk_at "S"
theorem ok_broad {f:Addr}{fd:FuncData}(Df:DefAt K mg "broad" s_broad f fd)(B:BltV mg)(KV:KitV K)(CV_Walk:ClsV K "Walk" Xa2)(c_Walk_spans:CalM P w K mg base "Walk" "spans" 1 ["self"] (spV K 1 sp_Walk_spans))(c_walk_of:Cal P w K mg base "walk_of" 7 ["head","bits"] (spV K 2 sp_walk_of))(c_broadest:Cal P w K mg base "broadest" 2 ["some"] (spV K 1 sp_broadest))(c_level:Cal P w K mg base "level" 7 ["head","spans","k"] (spV K 3 sp_level)):
  Cal P w K mg base "broad" 8 ["head","bits","many"] (spV K 3 sp_broad):=by
 refine CalV.of Df sc_broad (by walk_at "b") rfl (λc A o s H E hr=>⟨_,_,(Xah (ps_set (i:=3) sc_broad.nd rfl (Or.inl rfl) (pe_metN0 c_Walk_spans (hr.mono (by decide)) (Xav c_walk_of (hr.mono (by decide)) (by rfl) (Xaa (pv 0) (Xaa (pe_slice sl_str (pv 1) po_none (po_some (pv 2))) Xae)))))
   (Xai (Xas (Xaw (call_maxL rfl) (by rfl) B.max boot_max (Xaa (pe_comp rfl (pi_list (Xav c_level (hr.mono (by decide)) (by rfl) (Xaa (pv 0) (Xaa (pv 3) (Xaa Xal Xae))))) (show BlkScope (Xac s_broad) _ from⟨rfl,by decide +kernel,by decide +kernel,by decide +kernel⟩) (N:=["row"]) (ix:=[none]) (show CapOf _ _ _ _ from trivial) (λ_ _ _=>(Xa6 (i:=0) (show List.Nodup (["row"]:List Str) by decide +kernel) rfl (Or.inl rfl))) (λ_ _ _=>(Xav c_broadest (hr.mono (by decide)) (by rfl) (Xaa (pv 0) Xae)))) Xae))))),
  (Xan (sS_set (sO_f (sF_o (sO_methP CV_Walk (by decide +kernel) (Xaq (sF_o (Xar (Xab Xaf (Xab (sF_slS Xaf sP_no (sP_pt Xad)) Xak))))) Xap))))
   (sS_frz 3 (Xa1 (sO_f (sF_cb cS_maxL (Xaj (Xaq (sF_o (sO_comp (sI_list (sF_o (Xar (Xab Xaf (Xab Xaf (Xab Xag Xak)))))) sG_name (Xar (Xab Xaf Xak))))) Xap)))))),?_⟩)
 rintro ds Pr ⟨h,w,L,n,fs,bs,c,u,rfl,ok,⟨h0,hh,w0,hw,hL⟩,hn,hbl,hc,F,S,k⟩
 have hm:h*w<=10000:=Nat.mul_le_mul hh hw
 have tu:=shp_small S (by lia)
 gn_on
 rw[strOf_len,str_take bs hc]
 refine⟨by omega,h,w,L,n,fs,bs.take c,u,rfl,hh,hn,by rw[<- Int.natCast_mul];exact F,?_⟩
 fin2
 refine⟨u,by rw[OV.vals_eq],tu.1,tu.2.1,by omega,tu.2.2.2,?_⟩
 rw[spans_Q]
 have hlf:OV.lf (.nl (List.map OV.fz (List.map spD (spansQ u))))=true:=by
  show OV.lfs _=true
  rw[List.map_map]
  exact lfs_fzS
 refine⟨hlf,?_⟩
 have ev:OV.val (.nl (List.map OV.fz (List.map spD (spansQ u)))) = .lst ((spansQ u).map spD):=by
  show D.lst (OV.vals _)=_
  rw[fzs_val]
 rw[ev]
 gp_on
 fin2
 have hql:=spansQ_len S
 refine⟨h,w,L,n,0,fs,spansQ u,rfl,ok,⟨h0,hh,by omega,hL⟩,Nat.zero_le _,hql,?_⟩
 rw[shT_one]
 show CmpW _ _ (OV.vals _) _ _
 rw[OV.vals_eq,shT_val]
 change ∀M:Int,brd h w (seenF h w L fs u) M->_ at k
 have hsn:openF (0,0) (λk=>gLower (0,0) sDown fs ((2^k:Nat):Int)) h w L 0 (λi j=>(spansQ u).getD (plIx h w L i j) ((0,0):Sp2))=seenF h w L fs u:=rfl
 rw[hsn]
 generalize seenF h w L fs u=e at k
 have hrow:∀i,∃M,(∃j,j<w/\(e i j).2-(e i j).1=M)/\∀j,j<w->(e i j).2-(e i j).1<=M:=λi=>row_max (λj=>(e i j).2-(e i j).1) w w0
 obtain⟨mr,hmr⟩:∃mr:Nat->Int,∀i,(∃j,j<w/\(e i j).2-(e i j).1=mr i)/\∀j,j<w->(e i j).2-(e i j).1<=mr i:=⟨λi=>(hrow i).choose,λi=>(hrow i).choose_spec⟩
 refine CmpW.map (List.range h) (λi=>D.lst (tab w λj=>spD (e i j))) (λi=>.fz (.int (mr i))) (by rw[List.length_range];lia) (λi _ Q q=>?_) ?_
 .fin2
  refine⟨tab w λj=>e i j,by rw[tab_map],by rw[tab_len];exact w0,by rw[tab_len];lia,λM hM hA=>?_⟩
  have hin:∀j,j<w->e i j∈tab w λj=>e i j:=λj hj=>List.mem_map.mpr ⟨j,List.mem_range.mpr hj,rfl⟩
  obtain⟨⟨j,hj,ej⟩,hall⟩:=hmr i
  have h1:=hA _ (hin j hj)
  obtain⟨s,hs,es⟩:=hM
  obtain⟨j',hj',rfl⟩:=List.mem_map.mp hs
  have h2:=hall j' (List.mem_range.mp hj')
  have:M=mr i:=by lia
  rw[this]
  exact q
 fin2
 refine⟨(List.range h).map mr,by simp only[List.map_map,Function.comp_def,OV.val],by rw[List.length_map,List.length_range];exact h0,λM hM hA=>?_⟩
 obtain⟨i,hi,rfl⟩:=List.mem_map.mp hM
 have hi:=List.mem_range.mp hi
 refine k _ ⟨?_,λa b ha hb=>?_⟩
 .obtain ⟨⟨j,hj,ej⟩,_⟩:=hmr i
  exact⟨i,j,hi,hj,ej⟩
 .have h1:=(hmr a).2 b hb
  have h2:=hA _ (List.mem_map.mpr ⟨a,List.mem_range.mpr ha,rfl⟩)
  lia
abbrev s_law_whole:Stmt:=top 88
theorem sc_law_whole:FnScope ["_law_found"] ["_law_found"] (Xac s_law_whole):=by walk_at "S"
def sp_law_whole:DSp:=λds P=>match ds with
 | [.int _]=>P (.fz (.bl true))
 |_=>False
theorem ok_law_whole {f:Addr}{fd:FuncData}(Df:DefAt K mg "_law_whole" s_law_whole f fd)(B:BltV mg)(KV:KitV K):
  Cal P w K mg base "_law_whole" 1 ["_law_found"] (spV K 1 sp_law_whole):=by
 refine CalV.of Df sc_law_whole (by walk_at "b") rfl (λc A o s H E hr=>⟨_,_,(Xai (Xas (pe_and (Xaw call_isiD (by rfl) B.isinstance boot_isinstance (Xaa (pv 0) (Xaa (pe_bltn (v:=.ty "int") (by rfl) B.int PyProof.Rows.boot_int (by rfl)) Xae))) (pe_one (pe_not (Xaw call_isiD (by rfl) B.isinstance boot_isinstance (Xaa (pv 0) (Xaa (pe_bltn (v:=.ty "bool") (by rfl) B.bool PyProof.Rows.boot_bool (by rfl)) Xae)))))))),
  (Xa1 (sO_f (sF_andV (sF_cb (cS_isi KV) (Xaj Xad (Xaj (Xaq sF_ty) Xap))) (sF_notV (sF_cb (cS_isi KV) (Xaj Xad (Xaj (Xaq sF_ty) Xap))))))),?_⟩)
 intro ds Pr h
 unfold sp_law_whole at h
 split at h
 .fin2
  exact h
 .exact h.elim
theorem lfOk {h l r a s:Int}(h1:h=0∨h=1)(h2 : -8<=l/\l<=8)(h3 : -8<=r/\r<=8)(h4 : -64<=a/\a<=64)(h5:0<=s/\s<=8):(⟨h,l,r,a,s⟩:Lf).Ok:=⟨h1,h2,h3,h4,h5⟩
theorem name4 (i:Int)(h0:0<=i)(h4:i<4):∃(k:Str) (fs:List Lf),atI [D.str "still",D.str "pair",D.str "line",D.str "long"] i=some (.str k)/\ladK.lookup k=some (ladD fs)/\fs.length<=3/\∀f∈fs,f.Ok:=by
 have o1:=lfOk (h:=1) (l:=-1) (r:=0) (a:=0) (s:=0) (.inr rfl) (by decide) (by decide) (by decide) (by decide)
 have o2:=lfOk (h:=0) (l:=0) (r:=1) (a:=0) (s:=1) (.inl rfl) (by decide) (by decide) (by decide) (by decide)
 have o3:=lfOk (h:=1) (l:=-1) (r:=-1) (a:=1) (s:=1) (.inr rfl) (by decide) (by decide) (by decide) (by decide)
 have o4:=lfOk (h:=0) (l:=1) (r:=1) (a:=2) (s:=2) (.inl rfl) (by decide) (by decide) (by decide) (by decide)
 have o5:=lfOk (h:=1) (l:=-1) (r:=-1) (a:=4) (s:=3) (.inr rfl) (by decide) (by decide) (by decide) (by decide)
 rcases (show i=0∨i=1∨i=2∨i=3 by lia) with rfl |rfl |rfl |rfl
 .exact ⟨"still",[],rfl,rfl,by decide,(λf hf=>by cases hf)⟩
 .refine ⟨"pair",[⟨1,-1,0,0,0⟩,⟨0,0,1,0,1⟩],rfl,rfl,by decide,λf hf=>?_⟩
  simp only[List.mem_cons,List.not_mem_nil,or_false]at hf
  rcases hf with rfl |rfl
  .exact o1
  .exact o2
 .refine ⟨"line",[⟨1,-1,-1,1,1⟩,⟨0,1,1,2,2⟩],rfl,rfl,by decide,λf hf=>?_⟩
  simp only[List.mem_cons,List.not_mem_nil,or_false]at hf
  rcases hf with rfl |rfl
  .exact o3
  .exact o4
 .refine ⟨"long",[⟨1,-1,-1,1,1⟩,⟨0,1,1,2,2⟩,⟨1,-1,-1,4,3⟩],rfl,rfl,by decide,λf hf=>?_⟩
  simp only[List.mem_cons,List.not_mem_nil,or_false]at hf
  rcases hf with rfl |rfl |rfl
  .exact o3
  .exact o4
  .exact o5
def sp_law_ladder:DSp:=λds P=>∃c:Int,ds=[.int c]/\∀fs:List Lf,(∀f∈fs,f.Ok)->fs.length<=3->P (.fz (ladD fs))
abbrev s_law_ladder:Stmt:=top 89
theorem sc_law_ladder:FnScope ["_law_cell","_law_names"] ["_law_cell"] (Xac s_law_ladder):=by walk_at "S"
theorem ok_law_ladder {f:Addr}{fd:FuncData}(Df:DefAt K mg "_law_ladder" s_law_ladder f fd)(B:BltV mg)(KV:KitV K)(c_ladder_of:Cal P w K mg base "ladder_of" 1 ["name"] (spV K 1 sp_ladder_of)):
  Cal P w K mg base "_law_ladder" 2 ["_law_cell"] (spV K 1 sp_law_ladder):=by
 refine CalV.of Df sc_law_ladder (by walk_at "b") rfl (λc A o s H E hr=>⟨_,_,(Xah (ps_set (i:=1) sc_law_ladder.nd rfl (Or.inl rfl) (pe_lstS (Xaa pe_str (Xaa pe_str (Xaa pe_str (Xaa pe_str Xae))))))
   (Xah (ps_if (pt_cmpR op_lt (Xay op_mod (pv 0) Xal) Xal (nomark _)) (Xai (Xas (Xav c_ladder_of (hr.mono (by decide)) (by rfl) (Xaa (Xaz ix_list (pv 1) (Xay op_mod (pv 0) Xal) (λ_ _=>rfl)) Xae)))) pss_nil)
   (Xah (ps_set (i:=0) sc_law_ladder.nd rfl (Or.inl rfl) (Xay op_fdiv (pv 0) Xal))
   (Xai (Xas (pe_tupS (Xaa (pe_tupS (Xaa (Xay op_mod (pv 0) Xal) (Xaa (Xay op_sub (Xay op_mod (Xay op_fdiv (pv 0) Xal) Xal) Xal) (Xaa (Xay op_sub (Xay op_mod (Xay op_fdiv (pv 0) Xal) Xal) Xal) (Xaa (Xay op_sub (Xay op_mod (Xay op_fdiv (pv 0) Xal) Xal) Xal) (Xaa (Xay op_mod (Xay op_fdiv (pv 0) Xal) Xal) Xae)))))) Xae))))))),
  (Xan (sS_set (sO_f (sF_o (sO_lst (sAO_cons (sO_f sF_str) (sAO_cons (sO_f sF_str) (sAO_cons (sO_f sF_str) (sAO_cons (sO_f sF_str) sAO_nil))))))))
   (Xan (sS_if (sT_test (Xao oS_b0 (Xaq (Xao oS_i Xad (Xaq Xag))) (Xaq Xag))) (Xa1 (Xar (Xab (sF_opF oF_ixL Xaf (Xao oS_i Xad (Xaq Xag))) Xak))) sS_next)
   (Xan (sS_set (sO_f (Xao oS_i Xad (Xaq Xag))))
   (Xa1 (sO_f (sF_tup (Xab (sF_tup (Xab (Xao oS_i Xad (Xaq Xag)) (Xab (Xao oS_i0 (Xaq (Xao oS_i (Xaq (Xao oS_i Xad (Xaq Xag))) (Xaq Xag))) (Xaq Xag)) (Xab (Xao oS_i0 (Xaq (Xao oS_i (Xaq (Xao oS_i Xad (Xaq Xag))) (Xaq Xag))) (Xaq Xag)) (Xab (Xao oS_i0 (Xaq (Xao oS_i (Xaq (Xao oS_i Xad (Xaq Xag))) (Xaq Xag))) (Xaq Xag)) (Xab (Xao oS_i (Xaq (Xao oS_i Xad (Xaq Xag))) (Xaq Xag)) Xak)))))) Xak))))))),?_⟩)
 rintro ds Pr ⟨c,rfl,k⟩
 gn_on
 gp_on
 gn_on
 split
 .obtain ⟨x,fs,h1,h2,h3,h4⟩:=name4 (c%5) (by lia) (by omega)
  exact⟨_,h1,x,ladD fs,rfl,h2,k fs h4 h3⟩
 gp_on
 gn_on
 gp_on
 generalize c / 5=d
 fin2
 refine k [⟨d%2,_,_,_,_⟩] (λf hf=>?_) (by simp)
 rw[List.mem_singleton]at hf
 subst hf
 exact lfOk (by lia) ⟨by lia,by lia⟩ ⟨by lia,by lia⟩ ⟨by lia,by lia⟩ ⟨by lia,by lia⟩
def sp_law_picture:DSp:=λds P=>∃(ns:List Int) (h w:Nat) (mo:Int),ds=[.lst (ns.map .int),.int h,.int w,.int mo]/\ns.length<=1000/\(0<h/\h<=10/\0<w/\w<=10)/\(0<=mo/\mo<=1000000000000000000)/\∀e:Nat->Nat->Int,(∀i j,-mo<=e i j/\e i j<=mo)->P (.nl (shT D.int h w e))
abbrev s_law_picture:Stmt:=top 90
theorem sc_law_picture:FnScope ["_law_script","_law_high","_law_wide","_law_most","_law_cells","_law_k","_law_at"] ["_law_script","_law_high","_law_wide","_law_most"] (Xac s_law_picture):=by walk_at "S"
theorem ok_law_picture {f:Addr}{fd:FuncData}(Df:DefAt K mg "_law_picture" s_law_picture f fd)(B:BltV mg)(KV:KitV K):
  Cal P w K mg base "_law_picture" 1 ["_law_script","_law_high","_law_wide","_law_most"] (spV K 4 sp_law_picture):=by
 refine CalV.of Df sc_law_picture (by walk_at "b") rfl (λc A o s H E hr=>⟨_,_,(Xah (ps_set (i:=4) sc_law_picture.nd rfl (Or.inr rfl) (Xay op_rep (pe_lstS (Xaa Xal Xae)) (Xay op_mul (pv 1) (pv 2))))
   (Xah (ps_for PassesOwn.never rfl (pi_range1 (by rfl) (by exact B.range) (Xaa (Xaw Xa3 (by rfl) B.len PySem.boot_len (Xaa (pv 0) Xae)) Xae)) (Xa6 (i:=5) sc_law_picture.nd rfl (Or.inl rfl)) (Xah (ps_set (i:=6) sc_law_picture.nd rfl (Or.inl rfl) (Xay op_mod (pv 5) (Xaw Xa3 (by rfl) B.len PySem.boot_len (Xaa (pv 4) Xae))))
   (Xai (ps_asg (Xay op_mod (Xay op_add (Xay op_mul (Xaz ix_list (pv 4) (pv 6) (λ_ _=>rfl)) Xal) (Xaz ix_list (pv 0) (pv 5) (λ_ _=>rfl))) (Xay op_add (Xay op_mul Xal (pv 3)) Xal)) (pg_sub (pv 4) (pv 6) set_list)))))
   (Xai (Xas (pe_comp1 rfl (pi_range1 (by rfl) (by exact B.range) (Xaa (pv 1) Xae)) (show Blk1 (Xac s_law_picture) _ "_law_i" from⟨rfl,λ_ _=>rfl,λ_=>rfl,by decide +kernel,by decide +kernel,by decide +kernel,by decide +kernel,by decide +kernel⟩) (N:=["_law_i","_law_most","_law_cells","_law_wide"]) (ix:=[none,some 3,some 4,some 2]) (show CapOf _ _ _ _ from⟨⟨rfl,rfl,.inl rfl⟩,⟨rfl,rfl,.inl rfl⟩,⟨rfl,rfl,.inl rfl⟩,trivial⟩) (λ_ _ _=>(Xa6 (i:=0) (show List.Nodup (["_law_i","_law_most","_law_cells","_law_wide"]:List Str) by decide +kernel) rfl (Or.inr rfl))) (λ_ _ _=>(pe_compC rfl (pi_range1 (by rfl) (by exact B.range) (Xaa (pv 3) Xae)) (N:=["_law_j","_law_most","_law_cells","_law_i","_law_wide"]) (ix:=[none,some 1,some 2,some 0,some 3]) (show CapOf _ _ _ _ from⟨⟨rfl,rfl,.inl rfl⟩,⟨rfl,rfl,.inl rfl⟩,⟨rfl,rfl,.inl rfl⟩,⟨rfl,rfl,.inl rfl⟩,trivial⟩) (by rfl) (by decide +kernel) (by decide +kernel) (by decide +kernel) (λ_ _ _=>(Xa6 (i:=0) (show List.Nodup (["_law_j","_law_most","_law_cells","_law_i","_law_wide"]:List Str) by decide +kernel) rfl (Or.inl rfl))) (λ_ _ _=>(Xay op_sub (Xaz ix_list (pv 2) (Xay op_add (Xay op_mul (pv 3) (pv 4)) (pv 0)) (λ_ _=>rfl)) (pv 1)))))))))),
  (Xan (sS_set (sO_rep1 (sO_lst (sAO_cons (sO_f Xag) sAO_nil)) (Xaq (Xao oS_i Xad Xad))))
   (Xan (sS_for (sI_rng1 (Xaj (Xaq (sF_cb cS_len (Xaj Xad Xap))) Xap)) sG_name (Xan (sS_set (sO_f (Xao oS_i Xad (Xaq (sF_cb cS_len (Xaj Xad Xap))))))
   (sS_put (sO_f (Xao oS_i (Xaq (Xao oS_i0 (Xaq (Xao oS_i (sB_op (OpF.b oF_ixL) Xad Xad) (Xaq Xag))) (sB_op (OpF.b oF_ixL) Xad Xad))) (Xaq (Xao oS_i0 (Xaq (Xao oS_i (Xaq Xag) Xad)) (Xaq Xag))))) Xad)))
   (sS_frz 4 (Xa1 (sO_comp (sI_rng1 (Xaj Xad Xap)) sG_name (sO_comp (sI_rng1 (Xaj Xad Xap)) sG_name (sO_f (Xao oS_i0 (sB_op (OpF.b oF_ixL) Xad (Xaq (Xao oS_i0 (Xaq (Xao oS_i Xad Xad)) Xad))) Xad)))))))),?_⟩)
 rintro ds Pr ⟨ns,h,w',mo,rfl,hl,⟨h0,hh,w0,hw⟩,⟨m0,m1⟩,k⟩
 have hm:h*w'<=100:=Nat.mul_le_mul hh hw
 have hm0:0<h*w':=Nat.mul_pos h0 w0
 gn_on
 rw[<- Int.natCast_mul]
 refine⟨.inl ⟨by lia,by lia⟩,⟨by lia,by lia⟩,?_⟩
 rw[Int.toNat_natCast]
 gp_on
 gn_on
 refine⟨⟨by lia,by lia⟩,λn δ=>∃(cs:List Int) (o5 o6:Option Sl),δ=[vD (.lst (ns.map .int)),vI h,vI w',vI mo,some (.own (.nl (cs.map λc=>.fz (.int c)))),o5,o6]/\cs.length=h*w'/\∀c∈cs,0<=c/\c<2*mo+1,⟨List.replicate (h*w') 0,none,none,?_,by simp,λc hc=>?_⟩,?_,?_⟩
 .rw [List.map_replicate]
 .rw [(List.mem_replicate.mp hc).2]
  exact⟨Int.le_refl _,by lia⟩
 .rintro n d δ hd ⟨cs,o5,o6,rfl,hcl,hcr⟩
  obtain⟨hn,rfl⟩:=rng_inv hd
  simp only[gN,List.set_cons_succ,List.set_cons_zero]
  gn_on
  rw[hcl]
  refine⟨by lia,?_⟩
  have ha0:0<=(0+(n:Int)*1)%((h*w':Nat):Int):=Int.emod_nonneg _ (by lia)
  have ha1:(0+(n:Int)*1)%((h*w':Nat):Int)<((h*w':Nat):Int):=Int.emod_lt_of_pos _ (by lia)
  generalize (0+(n:Int)*1)%((h*w':Nat):Int)=at' at ha0 ha1
  gp_on
  fin2
  refine⟨_,atI_ints ha0 (by rw[hcl];exact ha1),.inr ⟨by decide,by decide⟩,_,atI_ints (by lia) (by lia),by lia,at'.toNat,by rw[hcl];exact ixN_at ha0 ha1,_,_,_,rfl,by rw[List.length_set];exact hcl,λc hc=>?_⟩
  rcases List.mem_or_eq_of_mem_set hc with z |z
  .exact hcr c z
  .rw [z]
   exact⟨Int.emod_nonneg _ (by lia),Int.emod_lt_of_pos _ (by lia)⟩
 .rintro δ ⟨cs,o5,o6,rfl,hcl,hcr⟩
  gp_on
  fin2
  refine⟨⟨by lia,by lia⟩,?_⟩
  refine CmpW.rng (λi=>.nl (tab w' λj=>.fz (.int (if i<h/\j<w' then cs.getD (i*w'+j) 0-mo else 0)))) (by lia) (λi hi Q q=>?_) ?_
  .fin2
   refine⟨⟨by lia,by lia⟩,?_⟩
   refine CmpW.rng (λj=>.fz (.int (if i<h/\j<w' then cs.getD (i*w'+j) 0-mo else 0))) (by lia) (λj hj Q q=>?_) ?_
   .fin2
    have hlt:i*w'+j<h*w':=by
     have:=Nat.mul_le_mul_right w' (show i+1<=h by lia)
     rw[Nat.succ_mul]at this
     lia
    have eI:(0+(i:Int)*1)*(w':Int)+(0+(j:Int)*1)=((i*w'+j:Nat):Int):=by
     rw[Int.zero_add,Int.mul_one,Int.zero_add,Int.mul_one,Int.natCast_add,Int.natCast_mul]
    refine⟨.inl ⟨by lia,by lia⟩,?_⟩
    rw[eI]
    refine⟨_,atI_ints (by lia) (by rw[hcl];lia),?_⟩
    rw[if_pos ⟨by lia,by lia⟩]at q
    exact q
   .exact q
  .refine k (λi j=>if i<h/\j<w' then cs.getD (i*w'+j) 0-mo else 0) λi j=>?_
   try dsimp only
   split
   .rename_i z
    have hlt:i*w'+j<h*w':=by
     have:=Nat.mul_le_mul_right w' (show i+1<=h by lia)
     rw[Nat.succ_mul]at this
     lia
    have:=hcr _ (List.getElem_mem (by rw[hcl];exact hlt))
    rw[List.getD_eq_getElem?_getD,List.getElem?_eq_getElem (by rw[hcl];exact hlt)]
    show -mo<=cs[i*w'+j]-mo/\cs[i*w'+j]-mo<=mo
    lia
   .lia
def sp_enough_fits:DSp:=λds P=>∃(h w L n:Nat) (fs:List Lf) (bs:List Bool) (c:Nat) (u:Wk) (W:Int),ds=[hdD h w L n fs,.int W,.str (strOf bs),.int c]/\(∀f∈fs,f.Ok)/\(0<h/\h<=100/\0<w/\w<=100/\L<=6)/\n<=5000/\bs.length<=1000000/\c<=bs.length/\
 Fol (wk0 (h*w) n) (bs.take c) u/\Shp (h*w:Nat) u/\∀M:Int,brd h w (seenF h w L fs u) M->P (.fz (.bl (decide (M<=W))))
abbrev s_enough:Stmt:=top 85
theorem sc_enough:FnScope ["head","bits","breadth","fits"] ["head","bits","breadth"] (Xac s_enough):=by walk_at "S"
abbrev s_enough_fits:Stmt:=(Xa4 s_enough).getD 0 (.Pass ⟨0,0,0,0⟩)
theorem sc_enough_fits:CloScope ["head","breadth","bits","many"] ["head","breadth","bits"] ["many"] (Xac s_enough_fits):=⟨rfl,rfl,rfl,by decide +kernel,rfl,by decide +kernel,by decide +kernel,by decide +kernel⟩
theorem cs_enough_fits:∀x∈(Xac s_enough_fits).names,x.2 = .free->(Xac s_enough).names.lookup x.1=some .cell:=by decide +kernel
theorem sn_enough_fits {A:Around}{outer:List Env}{s:Shared}{H:Hp}{E:XK}{f:Addr}{cd:Value}{cl:List (Str×Addr)}(e:cl=freeL (Xac s_enough_fits) (cxOf CX0 P w K mg base ["head","bits","breadth","fits"] "enough" (Xac s_enough) f cd A outer s H E).nox.env):Seen (cxOf CX0 P w K mg base ["head","bits","breadth","fits"] "enough" (Xac s_enough) f cd A outer s H E).nox cl [0,2,1]:=by rw[e];exact seen_of (fs:=["head","breadth","bits"]) rfl (by decide +kernel) rfl (by decide +kernel)
theorem mp_enough_fits {env:Env}{cl:List (Str×Addr)}(e:cl=freeL (Xac s_enough_fits) env):cl.map (·.1)=(["head","breadth","bits"]:List Str):=by rw[e];rfl
theorem ok_enough_fits (B:BltV mg)(KV:KitV K)(c_broad:Cal P w K mg base "broad" 8 ["head","bits","many"] (spV K 3 sp_broad)):
  CloOk P w K mg base 9 "enough.<locals>.fits" s_enough_fits ["head","breadth","bits"] (spV K 4 sp_enough_fits):=by
 refine CloV.of sc_enough_fits (λ_ _ _ _ _ us hl=>match us,hl with | [_],_=>rfl) rfl (λA outer s H f cd cl hf hr=>⟨_,_,(Xai (Xas (pe_cmpR op_le (Xav c_broad (hr.mono (by decide)) (by rfl) (Xaa (pv 0) (Xaa (pv 2) (Xaa (pv 3) Xae)))) (pv 1) (nomark _)))),
  (Xa1 (sO_f (Xao oS_b0 (Xaq (sF_o (Xar (Xab Xaf (Xab Xaf (Xab Xaf Xak)))))) Xad))),?_⟩)
 rintro ds Pr ⟨h,w,L,n,fs,bs,c,u,W,rfl,ok,hb,hn,hl,hc,F,S,k⟩
 fin2
 refine⟨h,w,L,n,fs,bs,c,u,rfl,ok,hb,hn,hl,hc,F,S,λM hM=>?_⟩
 fin2
 exact k M hM
def lst (g:Int->Bool):Nat->Int->Int->Int
 | 0,_,f=>f
 |n+1,b,f=>if b<f then (if g ((b+f) / 2)=true then lst g n b ((b+f) / 2) else lst g n ((b+f) / 2+1) f) else f
theorem lst_fuel (g:Int->Bool):∀(n m:Nat) (b f:Int),f-b<=n->f-b<=m->lst g n b f=lst g m b f
 | 0,0,_,_,_,_=>rfl
 | 0,m+1,b,f,h,_=>by rw[lst,lst,if_neg (by lia)]
 |n+1,0,b,f,_,h=>by rw[lst,lst,if_neg (by lia)]
 |n+1,m+1,b,f,h1,h2=>by
  rw[lst,lst]
  split
  .rw [lst_fuel g n m b ((b+f) / 2) (by lia) (by lia),lst_fuel g n m ((b+f) / 2+1) f (by lia) (by lia)]
  .rfl
theorem lst_ok (g:Int->Bool):∀(n:Nat) (b f:Int),b<=f->f-b<=n->b<=lst g n b f/\lst g n b f<=f/\(lst g n b f=f∨g (lst g n b f)=true)/\(lst g n b f=b∨g (lst g n b f-1)=false)
 | 0,b,f,h,h1=>by rw[lst];exact⟨h,Int.le_refl _,.inl rfl,.inl (by lia)⟩
 |n + 1,b,f,h,h1=>by
  rw[lst]
  split
  .generalize hm:(b+f) / 2=m
   have m1:b<=m:=by lia
   have m2:m<f:=by lia
   split
   .rename_i hg
    obtain⟨a1,a2,a3,a4⟩:=lst_ok g n b m m1 (by lia)
    refine⟨a1,by lia,.inr ?_,a4⟩
    rcases a3 with a3 |a3
    .rw [a3];exact hg
    .exact a3
   .rename_i hg
    obtain⟨a1,a2,a3,a4⟩:=lst_ok g n (m+1) f (by lia) (by lia)
    refine⟨by lia,a2,a3,.inr ?_⟩
    rcases a4 with a4 |a4
    .rw [a4,show m+1-1=m by lia];simpa using hg
    .exact a4
  .exact ⟨h,Int.le_refl _,.inl rfl,.inl (by lia)⟩
def sp_least:DSp:=λds P=>∃(lo hi:Int) (cl:List (Str×Addr)) (cs:List D) (g:Int->Bool),ds=[.int lo,.int hi,.clo "enough.<locals>.fits" s_enough_fits cl cs]/\cl.map (·.1)=(["head","breadth","bits"]:List Str)/\(cl.map (·.2)).Nodup/\cs.length=3/\D.lfs cs=true/\lo<=hi/\
 (∀m,lo<=m->m<hi->∀Pr:OV->Prop,Pr (.fz (.bl (g m)))->sp_enough_fits (cs++[.int m]) Pr)/\P (.fz (.int (lst g (hi-lo).toNat lo hi)))
abbrev s_least:Stmt:=top 84
theorem sc_least:FnScope ["low","high","good","below","found","middle"] ["low","high","good"] (Xac s_least):=by walk_at "S"
theorem ok_least {f:Addr}{fd:FuncData}(Df:DefAt K mg "least" s_least f fd)(B:BltV mg)(KV:KitV K)(c_enough_fits:CloOk P w K mg base 9 "enough.<locals>.fits" s_enough_fits ["head","breadth","bits"] (spV K 4 sp_enough_fits)):
  Cal P w K mg base "least" 10 ["low","high","good"] (spV K 3 sp_least):=by
 refine CalV.of Df sc_least (by walk_at "b") rfl (λc A o s H E hr=>⟨_,_,(Xah (ps_set (i:=3) sc_least.nd rfl (Or.inl rfl) (pv 0))
   (Xah (ps_set (i:=4) sc_least.nd rfl (Or.inl rfl) (pv 1))
   (Xah (ps_while PassesOwn.never (pt_cmpR op_lt (pv 3) (pv 4) (nomark _)) (Xah (ps_set (i:=5) sc_least.nd rfl (Or.inl rfl) (Xay op_fdiv (Xay op_add (pv 3) (pv 4)) Xal))
   (Xai (ps_if (pt_val (pe_callP (pv 2) c_enough_fits (hr.mono (by decide)) (Xaa (pv 5) Xae))) (Xai (ps_set (i:=4) sc_least.nd rfl (Or.inl rfl) (pv 5))) (Xai (ps_set (i:=3) sc_least.nd rfl (Or.inl rfl) (Xay op_add (pv 5) Xal)))))))
   (Xai (Xas (pv 4)))))),
  (Xan (sS_set (sO_f Xaf))
   (Xan (sS_set (sO_f Xaf))
   (Xan (sS_while (sT_test (Xao oS_b0 Xad Xad)) (Xan (sS_set (sO_f (Xao oS_i (Xaq (Xao oS_i0 Xad Xad)) (Xaq Xag))))
   (sS_if (sT_b (sF_o (sO_callP (Xab Xaf Xak)))) (sS_set (sO_f Xaf)) (sS_set (sO_f (Xao oS_i0 Xad (Xaq Xag)))))))
   (Xa1 (sO_f Xaf))))),?_⟩)
 rintro ds Pr ⟨lo,hi,cl,cs,g,rfl,hf,hnd,h3,hlf,hlh,hg,k⟩
 gn_on
 gp_on
 gn_on
 gp_on
 gn_on
 have hcl:cl.length=cs.length:=by rw[h3,<- List.length_map (f:=(·.1)),hf];rfl
 refine⟨λm δ=>∃(b f:Int) (o:Option Sl),δ=[vI lo,vI hi,vD (.clo "enough.<locals>.fits" s_enough_fits cl cs),vI b,vI f,o]/\lo<=b/\b<=f/\f<=hi/\lst g m b f=lst g (hi-lo).toNat lo hi/\f-b=m,⟨(hi-lo).toNat,lo,hi,none,rfl,Int.le_refl _,hlh,Int.le_refl _,rfl,by lia⟩,?_⟩
 rintro m δ ⟨b,f,o,rfl,h1,h2,h4,h5,h7⟩
 fin2
 by_cases hbf:b<f
 .rw [if_pos (by simpa using hbf)]
  refine⟨hf,by decide +kernel,hnd,hcl,hlf,by rw[List.length_append,h3];rfl,hg _ (by lia) (by lia) _ ⟨rfl,?_⟩⟩
  fin2
  obtain⟨m,rfl⟩:∃i,m=i+1:=⟨m-1,by lia⟩
  rw[lst,if_pos hbf]at h5
  have hm1:b<=(b+f) / 2:=by lia
  have hm2:(b+f) / 2<f:=by lia
  generalize (b+f) / 2=mid at hm1 hm2 h5
  cases hq:g mid with
  |true=>
   rw[hq,if_pos rfl]at h5
   rw[if_pos rfl]
   exact⟨(mid-b).toNat,by lia,b,mid,_,rfl,h1,hm1,by lia,(lst_fuel g _ _ _ _ (by lia) (by lia)).trans h5,by lia⟩
  |false=>
   rw[hq,if_neg (by decide)]at h5
   rw[if_neg (by decide)]
   exact⟨(f-(mid+1)).toNat,by lia,mid+1,f,_,rfl,by lia,by lia,h4,(lst_fuel g _ _ _ _ (by lia) (by lia)).trans h5,by lia⟩
 .rw [if_neg (by simpa using hbf)]
  gp_on
  fin2
  rw[show m=0 by lia,lst]at h5
  rw[h5]
  exact k
theorem lad_lfs (fs:List Lf):D.lfs (fs.map lfD)=true:=by
 rw[D.lfs_eq,List.all_map,List.all_eq_true]
 intro f _
 simp[lfD,D.lf,D.lfs]
def Brs (h w L n:Nat)(fs:List Lf)(bs:List Bool)(B:Nat->Int):Prop:=∀c,c<=bs.length->∃u,Fol (wk0 (h*w) n) (bs.take c) u/\Shp (h*w:Nat) u/\brd h w (seenF h w L fs u) (B c)
def enD (B:Nat->Int)(W:Int)(n:Nat):D:=if B n<=W then .int (lst (λm=>decide (B m.toNat<=W)) n 0 n) else .non
theorem enD_ok (B:Nat->Int)(W:Int)(n:Nat):(W<B n/\enD B W n = .non)∨(B n<=W/\∃k:Nat,enD B W n = .int k/\k<=n/\B k<=W/\(k=0∨W<B (k-1))):=by
 unfold enD
 by_cases hW:B n<=W
 .rw [if_pos hW]
  refine .inr ⟨hW,?_⟩
  obtain⟨a1,a2,a3,a4⟩:=lst_ok (λm=>decide (B m.toNat<=W)) n 0 n (by lia) (by lia)
  generalize lst (λm=>decide (B m.toNat<=W)) n 0 n=k at a1 a2 a3 a4
  obtain⟨k,rfl⟩:∃i:Nat,k=i:=⟨k.toNat,by lia⟩
  refine⟨k,rfl,by lia,?_,?_⟩
  .rcases a3 with a3 |a3
   .rw [show k=n by lia];exact hW
   .simpa using a3
  .by_cases hk:k=0
   .exact .inl hk
   rcases a4 with a4 |a4
   .exact .inl (by lia)
   .rw [show ((k:Int)-1).toNat=k-1 by lia]at a4
    exact .inr (by simpa using a4)
 .rw [if_neg hW]
  exact .inl ⟨by lia,rfl⟩
def sp_enough:DSp:=λds P=>∃(h w L n:Nat) (fs:List Lf) (bs:List Bool) (W:Int) (B:Nat->Int),ds=[hdD h w L n fs,.str (strOf bs),.int W]/\(∀f∈fs,f.Ok)/\(0<h/\h<=100/\0<w/\w<=100/\L<=6)/\n<=5000/\bs.length<=1000000/\Brs h w L n fs bs B/\P (.fz (enD B W bs.length))
theorem ok_enough {f c T:Addr}{fd:FuncData}(Df:DefAt K mg "enough" s_enough f fd)(hc:fd.code = .ref c)(hC:PySem.W.CodeHd base c T)(hB:base.BuiltinsAt mg T)(B:BltV mg)(KV:KitV K)(c_enough_fits:CloOk P w K mg base 9 "enough.<locals>.fits" s_enough_fits ["head","breadth","bits"] (spV K 4 sp_enough_fits))(c_least:Cal P w K mg base "least" 10 ["low","high","good"] (spV K 3 sp_least)):
  Cal P w K mg base "enough" 11 ["head","bits","breadth"] (spT K 3 T ⟨303,4,304,49⟩ "enough.<locals>.fits" sp_enough):=by
 refine CalT.of Df hc sc_enough (sc:=Xac s_enough_fits) (by walk_at "b") rfl (λA outer s H E hr F hT cl ecl=>⟨_,_,(Xah (show PS _ s_enough_fits (tDef 3 T ⟨303,4,304,49⟩ "enough.<locals>.fits" s_enough_fits cl) from ps_def rfl hC hB (λok=>clos_okE ecl ok cs_enough_fits) sc_enough.nd rfl (Or.inl rfl))
   (Xah (ps_if (pt_not (pt_val (pe_callI (pv 3) c_enough_fits (hr.mono (by decide)) (sn_enough_fits _ _ _ ecl) (mp_enough_fits ecl) (Xaa (Xaw call_len_str (by rfl) B.len PySem.boot_len (Xaa (pv 1) Xae)) Xae)))) (Xai (Xas pe_non)) pss_nil)
   (Xai (Xas (pe_calT c_least (hr.mono (by decide)) (by rfl) (sn_enough_fits _ _ _ ecl) (Xaa Xal (Xaa (Xaw call_len_str (by rfl) B.len PySem.boot_len (Xaa (pv 1) Xae)) (Xaa (pv 3) Xae)))))))),
  (sP_seq (sP_def hT)
   (sP_seq (SimS.x (sS_if (sT_not (sT_b (sF_o (sO_callI (Xab (sF_cb cS_lenS (Xaj Xad Xap)) Xak))))) (Xa1 (sO_f sF_non)) sS_next))
   (SimS.x (Xa1 (sO_callT (q := "enough.<locals>.fits") (st:=s_enough_fits) (fs:=["head","breadth","bits"]) (mp_enough_fits ecl) (Xab Xag (Xab (sF_cb cS_lenS (Xaj Xad Xap)) (Xab Xaf Xak)))))))),?_⟩)
 clear ecl
 rintro ds Pr ⟨h,w,L,n,fs,bs,W,B,rfl,ok,hb,hn,hl,hB,k⟩
 have fit:∀(c:Nat) (Q:OV->Prop),c<=bs.length->Q (.fz (.bl (decide (B c<=W))))->sp_enough_fits [hdD h w L n fs,.int W,.str (strOf bs),.int c] Q:=λc Q hc q=>by
  obtain⟨u,F,S,hM⟩:=hB c hc
  exact⟨h,w,L,n,fs,bs,c,u,W,rfl,ok,hb,hn,hl,hc,F,S,λM hM'=>by rw[brd_uniq hM' hM];exact q⟩
 unfold enD at k
 gn_on
 gp_on
 gn_on
 rw[strOf_len]
 refine⟨by lia,fit _ _ (Nat.le_refl _) ?_⟩
 fin2
 by_cases hW:B bs.length<=W
 .rw [if_pos hW]at k
  rw[decide_eq_true hW]
  show if (!true)=true then _ else _
  rw[if_neg (by decide)]
  gp_on
  fin2
  rw[strOf_len]
  refine⟨by lia,λhnd hf=>⟨0,bs.length,cl,_,λm=>decide (B m.toNat<=W),rfl,hf,hnd,rfl,by simp only[hdD,ladD,D.lfs,D.lf,Bool.and_true,Bool.true_and];exact lad_lfs fs,by lia,λm h0 h1 Q q=>?_,rfl,?_⟩⟩
  .obtain ⟨m,rfl⟩:∃i:Nat,m=i:=⟨m.toNat,by lia⟩
   exact fit m Q (by lia) q
  .rw [show ((bs.length:Int)-0).toNat=bs.length by lia]
   exact k
 .rw [if_neg hW]at k
  rw[decide_eq_false hW]
  show if (!false)=true then _ else _
  rw[if_pos (by decide)]
  exact k
theorem max_ex (f:Nat->Int):∀n,0<n->∃M,(∃i,i<n/\f i=M)/\∀i,i<n->f i<=M
 | 0,h=>by lia
 | 1,_=>⟨f 0,⟨0,by lia,rfl⟩,λi hi=>by rw[show i=0 by lia];exact Int.le_refl _⟩
 |n + 2,_=>by
  obtain⟨M,⟨i,hi,e⟩,h⟩:=max_ex f (n+1) (by lia)
  by_cases hM:f (n+1)<=M
  .exact ⟨M,⟨i,by lia,e⟩,λj hj=>by
    by_cases z:j=n+1
    .rw [z];exact hM
    .exact h j (by lia)⟩
  .exact ⟨f (n+1),⟨n+1,by lia,rfl⟩,λj hj=>by
    by_cases z:j=n+1
    .rw [z];exact Int.le_refl _
    .have:=h j (by lia)
     lia⟩
theorem brd_ex {h w:Nat}(h0:0<h)(w0:0<w)(e:Nat->Nat->Sp2):∃M,brd h w e M:=by
 have row:∀i,∃M,(∃j,j<w/\(e i j).2-(e i j).1=M)/\∀j,j<w->(e i j).2-(e i j).1<=M:=λi=>max_ex (λj=>(e i j).2-(e i j).1) w w0
 obtain⟨R,hR⟩:=Classical.skolem.mp row
 obtain⟨M,⟨i,hi,rfl⟩,hM⟩:=max_ex R h h0
 obtain⟨⟨j,hj,ej⟩,_⟩:=hR i
 exact⟨R i,⟨i,j,hi,hj,ej⟩,λi' j' hi' hj'=>Int.le_trans ((hR i').2 j' hj') (hM i' hi')⟩
theorem brs_ex {h w L n:Nat}{fs:List Lf}{bs:List Bool}(h0:0<h)(w0:0<w)(H:∀c,c<=bs.length->∃u,Fol (wk0 (h*w) n) (bs.take c) u/\Shp (h*w:Nat) u):∃B,Brs h w L n fs bs B:=by
 have ex:∀c:Nat,∃M:Int,c<=bs.length->∃u,Fol (wk0 (h*w) n) (bs.take c) u/\Shp (h*w:Nat) u/\brd h w (seenF h w L fs u) M:=λc=>by
  by_cases hc:c<=bs.length
  .obtain ⟨u,F,S⟩:=H c hc
   obtain⟨M,hM⟩:=brd_ex h0 w0 (seenF h w L fs u)
   exact⟨M,λ_=>⟨u,F,S,hM⟩⟩
  .exact ⟨0,λz=>absurd z hc⟩
 obtain⟨B,hB⟩:=Classical.skolem.mp ex
 exact⟨B,hB⟩
def sp_law_asked:DSp:=λds P=>∃(h w L n:Nat) (fs:List Lf) (bs:List Bool) (c:Int) (B:Nat->Int),ds=[hdD h w L n fs,.str (strOf bs),.int c]/\(∀f∈fs,f.Ok)/\(0<h/\h<=100/\0<w/\w<=100/\L<=6)/\n<=5000/\bs.length<=1000000/\Brs h w L n fs bs B/\∀W,P (.fz (.int W))
abbrev s_law_asked:Stmt:=top 91
theorem sc_law_asked:FnScope ["_law_head","_law_bits","_law_cell","_law_some"] ["_law_head","_law_bits","_law_cell"] (Xac s_law_asked):=by walk_at "S"
theorem ok_law_asked {f:Addr}{fd:FuncData}(Df:DefAt K mg "_law_asked" s_law_asked f fd)(B:BltV mg)(KV:KitV K)(c_broad:Cal P w K mg base "broad" 8 ["head","bits","many"] (spV K 3 sp_broad)):
  Cal P w K mg base "_law_asked" 9 ["_law_head","_law_bits","_law_cell"] (spV K 3 sp_law_asked):=by
 refine CalV.of Df sc_law_asked (by walk_at "b") rfl (λc A o s H E hr=>⟨_,_,(Xah (ps_if (pt_cmpR op_eq (Xay op_mod (pv 2) Xal) Xal (nomark _)) (Xai (Xas (Xay op_mod (Xay op_fdiv (pv 2) Xal) Xal))) pss_nil)
   (Xah (ps_set (i:=3) sc_law_asked.nd rfl (Or.inl rfl) (Xav c_broad (hr.mono (by decide)) (by rfl) (Xaa (pv 0) (Xaa (pv 1) (Xaa (Xay op_mod (Xay op_fdiv (pv 2) Xal) (Xay op_add (Xaw call_len_str (by rfl) B.len PySem.boot_len (Xaa (pv 1) Xae)) Xal)) Xae)))))
   (Xah (ps_if (pw_and (pt_cmpR op_eq (Xay op_mod (pv 2) Xal) Xal (nomark _)) (pw_and1 (pt_cmpR op_gt (pv 3) Xal (nomark _)))).pt (Xai (Xas (Xay op_sub (pv 3) Xal))) pss_nil)
   (Xai (Xas (pv 3)))))),
  (Xan (sS_if (sT_test (Xao oS_eq (Xaq (Xao oS_i Xad (Xaq Xag))) (Xaq Xag))) (Xa1 (sO_f (Xao oS_i (Xaq (Xao oS_i Xad (Xaq Xag))) (Xaq Xag)))) sS_next)
   (Xan (sS_set (sO_f (sF_o (Xar (Xab Xaf (Xab Xaf (Xab (Xao oS_i (Xaq (Xao oS_i Xad (Xaq Xag))) (Xaq (Xao oS_i0 (Xaq (sF_cb cS_lenS (Xaj Xad Xap))) (Xaq Xag)))) Xak)))))))
   (Xan (sS_if (sT_and (sT_test (Xao oS_eq (Xaq (Xao oS_i Xad (Xaq Xag))) (Xaq Xag))) (sT_test (Xao oS_b0 Xad (Xaq Xag)))) (Xa1 (sO_f (Xao oS_i0 Xad (Xaq Xag)))) sS_next)
   (Xa1 (sO_f Xaf))))),?_⟩)
 rintro ds Pr ⟨h,w,L,n,fs,bs,c,B,rfl,ok,hb,hn,hl,hB,k⟩
 gn_on
 split
 .exact k _
 gp_on
 gn_on
 rw[strOf_len]
 have f0:0<=c / 3%((bs.length:Int)+1):=Int.emod_nonneg _ (by lia)
 have f1:c / 3%((bs.length:Int)+1)<(bs.length:Int)+1:=Int.emod_lt_of_pos _ (by lia)
 refine⟨by lia,by lia,?_⟩
 generalize c / 3%((bs.length:Int)+1)=m at f0 f1
 obtain⟨m,rfl⟩:∃i:Nat,m=i:=⟨m.toNat,by lia⟩
 obtain⟨u,F,S,hM⟩:=hB m (by lia)
 refine⟨h,w,L,n,fs,bs,m,u,rfl,ok,hb,hn,hl,by lia,F,S,λM hM=>?_⟩
 fin2
 gp_on
 fin2
 split
 .split
  .exact k _
  .exact k _
 .exact k _
def sp_law_least:DSp:=λds P=>∃(h w L n:Nat) (fs:List Lf) (bs:List Bool) (W:Int) (d:D) (B:Nat->Int),ds=[hdD h w L n fs,.str (strOf bs),.int W,d]/\(∀f∈fs,f.Ok)/\(0<h/\h<=100/\0<w/\w<=100/\L<=6)/\n<=5000/\bs.length<=1000000/\Brs h w L n fs bs B/\
 ((W<B bs.length/\d = .non)∨(B bs.length<=W/\∃k:Nat,d = .int k/\k<=bs.length/\B k<=W/\(k=0∨W<B (k-1))))/\P (.fz (.bl true))
abbrev s_law_least:Stmt:=top 92
theorem sc_law_least:FnScope ["_law_head","_law_bits","_law_most","_law_found"] ["_law_head","_law_bits","_law_most","_law_found"] (Xac s_law_least):=by walk_at "S"
theorem ok_law_least {f:Addr}{fd:FuncData}(Df:DefAt K mg "_law_least" s_law_least f fd)(B:BltV mg)(KV:KitV K)(c_broad:Cal P w K mg base "broad" 8 ["head","bits","many"] (spV K 3 sp_broad))(c_law_whole:Cal P w K mg base "_law_whole" 1 ["_law_found"] (spV K 1 sp_law_whole)):
  Cal P w K mg base "_law_least" 9 ["_law_head","_law_bits","_law_most","_law_found"] (spV K 4 sp_law_least):=by
 refine CalV.of Df sc_law_least (by walk_at "b") rfl (λc A o s H E hr=>⟨_,_,(Xah (ps_if (pt_cmpR op_gt (Xav c_broad (hr.mono (by decide)) (by rfl) (Xaa (pv 0) (Xaa (pv 1) (Xaa (Xaw call_len_str (by rfl) B.len PySem.boot_len (Xaa (pv 1) Xae)) Xae)))) (pv 2) (nomark _)) (Xai (Xas (pe_cmpR op_isN (pv 3) pe_non (nomark _)))) pss_nil)
   (Xah (ps_if (pw_or (pt_not (pt_val (Xav c_law_whole (hr.mono (by decide)) (by rfl) (Xaa (pv 3) Xae)))) (pw_or1 (pt_not (pt_chain op_le op_le Xal (pv 3) (Xaw call_len_str (by rfl) B.len PySem.boot_len (Xaa (pv 1) Xae)))))).pt (Xai (Xas pe_bl)) pss_nil)
   (Xah (ps_if (pt_cmpR op_gt (Xav c_broad (hr.mono (by decide)) (by rfl) (Xaa (pv 0) (Xaa (pv 1) (Xaa (pv 3) Xae)))) (pv 2) (nomark _)) (Xai (Xas pe_bl)) pss_nil)
   (Xai (Xas (pe_or (pe_cmpR op_eqZ (pv 3) Xal (nomark _)) (pe_one (pe_cmpR op_gt (Xav c_broad (hr.mono (by decide)) (by rfl) (Xaa (pv 0) (Xaa (pv 1) (Xaa (Xay op_sub (pv 3) Xal) Xae)))) (pv 2) (nomark _))))))))),
  (Xan (sS_if (sT_test (Xao oS_b0 (Xaq (sF_o (Xar (Xab Xaf (Xab Xaf (Xab (sF_cb cS_lenS (Xaj Xad Xap)) Xak)))))) Xad)) (Xa1 (sO_f (Xao oS_isN Xad (Xaq sF_non)))) sS_next)
   (Xan (sS_if (sT_or (sT_not (sT_b (sF_o (Xar (Xab Xaf Xak))))) (sT_not (sT_test (sF_chain oS_b0 oS_b0 (Xaq Xag) Xad (Xaq (sF_cb cS_lenS (Xaj Xad Xap))))))) (Xa1 (sO_f sF_bl)) sS_next)
   (Xan (sS_if (sT_test (Xao oS_b0 (Xaq (sF_o (Xar (Xab Xaf (Xab Xaf (Xab Xaf Xak)))))) Xad)) (Xa1 (sO_f sF_bl)) sS_next)
   (Xa1 (sO_f (sF_orV (Xao oS_eqZ Xad (Xaq Xag)) (Xao oS_b0 (Xaq (sF_o (Xar (Xab Xaf (Xab Xaf (Xab (Xao oS_i0 Xad (Xaq Xag)) Xak)))))) Xad))))))),?_⟩)
 rintro ds Pr ⟨h,w,L,n,fs,bs,W,d,B,rfl,ok,hb,hn,hl,hB,hd,k⟩
 have brd':∀(c:Nat) (Q:OV->Prop),c<=bs.length->Q (.fz (.int (B c)))->sp_broad [hdD h w L n fs,.str (strOf bs),.int c] Q:=λc Q hc q=>by
  obtain⟨u,F,S,hM⟩:=hB c hc
  exact⟨h,w,L,n,fs,bs,c,u,rfl,ok,hb,hn,hl,hc,F,S,λM hM'=>by rw[brd_uniq hM' hM];exact q⟩
 gn_on
 rw[strOf_len]
 refine⟨by lia,brd' _ _ (Nat.le_refl _) ?_⟩
 fin2
 rcases hd with⟨hW,rfl⟩ | ⟨hW,i,rfl,hi,hB1,hB2⟩
 .rw [if_pos (by simpa using hW)]
  exact k
 rw[if_neg (by simpa using hW)]
 gp_on
 gn_on
 simp only[sp_law_whole,OV.val,Bool.not_true,Bool.false_eq_true,if_false]
 rw[if_pos (by lia),strOf_len]
 refine⟨by lia,?_⟩
 rw[decide_eq_true (show (i:Int)<=bs.length by lia)]
 show if (!true)=true then _ else _
 rw[if_neg (by decide)]
 gp_on
 gn_on
 refine brd' _ _ hi ?_
 fin2
 rw[if_neg (by simpa using hB1)]
 gp_on
 fin2
 by_cases hi0:i=0
 .subst hi0
  rw[if_pos (show ((0:Nat):Int)=0 from rfl)]
  exact k
 rw[if_neg (by simpa using hi0),show (i:Int)-1=((i-1:Nat):Int) by lia]
 refine brd' _ _ (by lia) ?_
 fin2
 rw[decide_eq_true (show B (i-1) > W by lia)]
 exact k
abbrev s_law:Stmt:=top 93
theorem sc_law:FnScope ["_law_script","_law_cell","_law_high","_law_wide","_law_most","_law_ladder_here","_law_head","_law_bits","_law_cut","_law_beginning","_law_asked_here","_law_found"] ["_law_script"] (Xac s_law):=by walk_at "S"
theorem ok_law {f T:Addr}{fd:FuncData}(Df:DefAt K mg "law" s_law f fd)(B:BltV mg)(KV:KitV K)(c_law_cell_at:Cal P w K mg base "_law_cell_at" 1 ["_law_script","_law_k"] (spV K 2 sp_law_cell_at))(c_law_ladder:Cal P w K mg base "_law_ladder" 2 ["_law_cell"] (spV K 1 sp_law_ladder))(c_coded:CalD P w K mg base "coded" 6 ["picture","ladder","levels"] (spV K 3 sp_coded) [.non,.int 2])(c_law_picture:Cal P w K mg base "_law_picture" 1 ["_law_script","_law_high","_law_wide","_law_most"] (spV K 4 sp_law_picture))(c_law_asked:Cal P w K mg base "_law_asked" 9 ["_law_head","_law_bits","_law_cell"] (spV K 3 sp_law_asked))(c_enough:Cal P w K mg base "enough" 11 ["head","bits","breadth"] (spT K 3 T ⟨303,4,304,49⟩ "enough.<locals>.fits" sp_enough))(c_law_least:Cal P w K mg base "_law_least" 9 ["_law_head","_law_bits","_law_most","_law_found"] (spV K 4 sp_law_least)):
  FnOk P w K mg base CX0 12 f fd ["_law_script"] (spLawT K T ⟨303,4,304,49⟩ "enough.<locals>.fits"):=by
 refine law_okT Df sc_law (λcdv A outer s H E hr hT=>⟨_,_,(Xah (ps_set (i:=1) sc_law.nd rfl (Or.inl rfl) (Xav c_law_cell_at (hr.mono (by decide)) (by rfl) (Xaa (pv 0) (Xaa Xal Xae))))
   (Xah (ps_set (i:=2) sc_law.nd rfl (Or.inl rfl) (Xay op_add Xal (Xay op_mod (pv 1) Xal)))
   (Xah (ps_set (i:=3) sc_law.nd rfl (Or.inl rfl) (Xay op_add Xal (Xay op_mod (Xay op_fdiv (pv 1) Xal) Xal)))
   (Xah (ps_set (i:=4) sc_law.nd rfl (Or.inl rfl) Xal)
   (Xah (ps_if (pt_cmpR op_eq (Xay op_mod (Xay op_fdiv (pv 1) Xal) Xal) Xal (nomark _)) (Xah (ps_set (i:=2) sc_law.nd rfl (Or.inl rfl) Xal)
   (Xah (ps_set (i:=3) sc_law.nd rfl (Or.inl rfl) Xal)
   (Xai (ps_set (i:=4) sc_law.nd rfl (Or.inl rfl) (Xay op_pow Xal Xal))))) pss_nil)
   (Xah (ps_set (i:=5) sc_law.nd rfl (Or.inl rfl) (Xav c_law_ladder (hr.mono (by decide)) (by rfl) (Xaa (Xav c_law_cell_at (hr.mono (by decide)) (by rfl) (Xaa (pv 0) (Xaa Xal Xae))) Xae)))
   (Xah (ps_asg (Xav c_coded.cal (hr.mono (by decide)) (by rfl) (Xaa (Xav c_law_picture (hr.mono (by decide)) (by rfl) (Xaa (pv 0) (Xaa (pv 2) (Xaa (pv 3) (Xaa (pv 4) Xae))))) (Xaa (pv 5) (Xaa (Xay op_mod (Xay op_fdiv (pv 1) Xal) Xal) Xae)))) (pg_tup (n:=2) rfl (pgs_cons (Xa6 (i:=6) sc_law.nd rfl (Or.inl rfl)) (pgs_cons (Xa6 (i:=7) sc_law.nd rfl (Or.inl rfl)) pgs_nil))))
   (Xah (ps_set (i:=8) sc_law.nd rfl (Or.inl rfl) (Xaw call_len_str (by rfl) B.len PySem.boot_len (Xaa (pv 7) Xae)))
   (Xah (ps_if (pt_cmpR op_eq (Xay op_mod (Xay op_fdiv (pv 1) Xal) Xal) Xal (nomark _)) (Xai (ps_set (i:=8) sc_law.nd rfl (Or.inl rfl) (Xay op_mod (Xav c_law_cell_at (hr.mono (by decide)) (by rfl) (Xaa (pv 0) (Xaa Xal Xae))) (Xay op_add (Xaw call_len_str (by rfl) B.len PySem.boot_len (Xaa (pv 7) Xae)) Xal)))) pss_nil)
   (Xah (ps_set (i:=9) sc_law.nd rfl (Or.inl rfl) (pe_slice sl_str (pv 7) po_none (po_some (pv 8))))
   (Xah (ps_set (i:=10) sc_law.nd rfl (Or.inl rfl) (Xav c_law_asked (hr.mono (by decide)) (by rfl) (Xaa (pv 6) (Xaa (pv 9) (Xaa (Xav c_law_cell_at (hr.mono (by decide)) (by rfl) (Xaa (pv 0) (Xaa Xal Xae))) Xae)))))
   (Xah (ps_set (i:=11) sc_law.nd rfl (Or.inl rfl) (Xav c_enough (hr.mono (by decide)) (by rfl) (Xaa (pv 6) (Xaa (pv 9) (Xaa (pv 10) Xae)))))
   (Xah (ps_if (pt_not (pt_val (Xav c_law_least (hr.mono (by decide)) (by rfl) (Xaa (pv 6) (Xaa (pv 9) (Xaa (pv 10) (Xaa (pv 11) Xae))))))) (Xai (Xas pe_bl)) pss_nil)
   (Xah (ps_if (pt_not (pt_val (Xav c_law_least (hr.mono (by decide)) (by rfl) (Xaa (pv 6) (Xaa (pv 7) (Xaa Xal (Xaa (Xav c_enough (hr.mono (by decide)) (by rfl) (Xaa (pv 6) (Xaa (pv 7) (Xaa Xal Xae)))) Xae))))))) (Xai (Xas pe_bl)) pss_nil)
   (Xai (Xas (pe_cmpR op_eqZ (Xav c_enough (hr.mono (by decide)) (by rfl) (Xaa (pv 6) (Xaa (pv 9) (Xaa (pv 10) Xae)))) (pv 11) (nomark _)))))))))))))))))),
  (sP_seq (SimS.x (sS_set (sO_f (sF_o (Xar (Xab Xaf (Xab Xag Xak)))))))
   (sP_seq (SimS.x (sS_set (sO_f (Xao oS_i0 (Xaq Xag) (Xaq (Xao oS_i Xad (Xaq Xag)))))))
   (sP_seq (SimS.x (sS_set (sO_f (Xao oS_i0 (Xaq Xag) (Xaq (Xao oS_i (Xaq (Xao oS_i Xad (Xaq Xag))) (Xaq Xag)))))))
   (sP_seq (SimS.x (sS_set (sO_f Xag)))
   (sP_seq (SimS.x (sS_if (sT_test (Xao oS_eq (Xaq (Xao oS_i (Xaq (Xao oS_i Xad (Xaq Xag))) (Xaq Xag))) (Xaq Xag))) (Xan (sS_set (sO_f Xag))
   (Xan (sS_set (sO_f Xag))
   (sS_set (sO_f (Xao oS_i (Xaq Xag) (Xaq Xag)))))) sS_next))
   (sP_seq (SimS.x (sS_set (sO_f (sF_o (Xar (Xab (sF_o (Xar (Xab Xaf (Xab Xag Xak)))) Xak))))))
   (sP_seq (SimS.x (sS_asg (sF_o (Xar (Xab (sF_o (Xar (Xab Xaf (Xab Xaf (Xab Xaf (Xab Xaf Xak)))))) (Xab Xaf (Xab (Xao oS_i (Xaq (Xao oS_i Xad (Xaq Xag))) (Xaq Xag)) Xak))))) (sG_tup (sGs_cons sG_name (sGs_cons sG_name sGs_nil)))))
   (sP_seq (SimS.x (sS_set (sO_f (sF_cb cS_lenS (Xaj Xad Xap)))))
   (sP_seq (SimS.x (sS_if (sT_test (Xao oS_eq (Xaq (Xao oS_i (Xaq (Xao oS_i Xad (Xaq Xag))) (Xaq Xag))) (Xaq Xag))) (sS_set (sO_f (Xao oS_i (Xaq (sF_o (Xar (Xab Xaf (Xab Xag Xak))))) (Xaq (Xao oS_i0 (Xaq (sF_cb cS_lenS (Xaj Xad Xap))) (Xaq Xag)))))) sS_next))
   (sP_seq (SimS.x (sS_set (sO_f (sF_slS Xaf sP_no (sP_pt Xad)))))
   (sP_seq (SimS.x (sS_set (sO_f (sF_o (Xar (Xab Xaf (Xab Xaf (Xab (sF_o (Xar (Xab Xaf (Xab Xag Xak)))) Xak))))))))
   (sP_seq (sP_set (sP_fz (xO_callT hT (xA_f (Xab Xaf (Xab Xaf (Xab Xaf Xak)))))))
   (sP_seq (SimS.x (sS_if (sT_not (sT_b (sF_o (Xar (Xab Xaf (Xab Xaf (Xab Xaf (Xab Xaf Xak)))))))) (Xa1 (sO_f sF_bl)) sS_next))
   (sP_seq (xS_if (xT_not (xT_b (xF_o (xO_call (xA_cons (xF_f Xaf) (xA_cons (xF_f Xaf) (xA_cons (xF_f Xag) (xA_cons (xF_o (xO_callT hT (xA_f (Xab Xaf (Xab Xaf (Xab Xag Xak)))))) (xA_f Xak))))))))) (SimS.x (Xa1 (sO_f sF_bl))) (SimS.x sS_next))
   (sP_ret (xO_fz (xF_op oS_eqZ (xF_o (xO_callT hT (xA_f (Xab Xaf (Xab Xaf (Xab Xaf Xak)))))) Xad))))))))))))))))),?_⟩)
 intro ns hns hb
 gn_on
 refine⟨ns,0,rfl,by decide,?_⟩
 gp_on
 generalize ns.getD (0:Int).toNat 0=c0
 gn_on
 gp_on
 gn_on
 gp_on
 gn_on
 gp_on
 refine sSeq_k λN hN=>?_
 have key:∀(h w':Nat) (mo:Int),0<h->h<=2->0<w'->w'<=3->0<=mo->mo<=1000000000000000000->N [vD (.lst (ns.map .int)),vI c0,vI h,vI w',vI mo,none,none,none,none,none,none,none]:=by
  intro h w' mo h0 hh w0 hw m0 m1
  refine hN _ ?_
  clear hN
  clear N
  gn_on
  refine⟨ns,1,rfl,by decide,_,rfl,λfs ok hf3=>?_⟩
  fin2
  gp_on
  gn_on
  refine⟨ns,h,w',mo,rfl,by lia,⟨h0,by lia,w0,by lia⟩,⟨m0,m1⟩,λe he=>?_⟩
  fin2
  rw[shT_val]
  have hL0:0<=c0 / 24%3/\c0 / 24%3<3:=by lia
  generalize c0 / 24%3=lv at hL0
  obtain⟨L,rfl⟩:∃L:Nat,lv=L:=⟨lv.toNat,by lia⟩
  have hL:L<=2:=by lia
  clear hL0
  have hhw:h*w'<=6:=Nat.mul_le_mul hh hw
  have hhw0:0<h*w':=Nat.mul_pos h0 w0
  have h60:10*fs.length*L<=60:=by
   have:=Nat.mul_le_mul (Nat.mul_le_mul_left 10 hf3) hL
   lia
  have hbits:3*(h*w')*(60+10*fs.length*L+1)<=900000:=by
   have:=Nat.mul_le_mul (Nat.mul_le_mul_left 3 hhw) (show 60+10*fs.length*L+1<=121 by lia)
   lia
  have hp60:(1000000000000000000:Int)<=2^60:=by decide
  refine⟨h,w',e,fs,L,60,rfl,by lia,ok,by lia,h0,by lia,w0,by lia,by decide,by decide,(λi j=>by have:=he i j;lia),hbits,λn bs v _ _ hn _ F hv S C hus hbl=>?_⟩
  have hxl:=nums_len (h:=h) (w:=w') (L:=L) (e:=e) (fs:=fs)
  generalize numsF h w' e fs L=xs at F S C hxl
  rw[hxl]at F S
  fin2
  gp_on
  obtain⟨q1,q2,q3,q4⟩:=start_facts (h*w') n
  have hS0:=start_shape (m:=((h*w':Nat):Int)) (by lia) n
  have cut:∀c:Nat,c<=bs.length->∃u,Fol (wk0 (h*w') n) (bs.take c) u/\Shp (h*w':Nat) u:=λc hc=>by
   obtain⟨u,a1,a2,_⟩:=cut_any (m:=h*w') hhw0 (by lia) F hS0 (by lia) (by rw[q2,List.length_nil];lia) q3 hc
   exact⟨u,a1,a2⟩
  have brs:∀c,c<=bs.length->∃B,Brs h w' L n fs (bs.take c) B:=λc hc=>brs_ex h0 w0 λd hd=>by
   rw[List.length_take]at hd
   rw[List.take_take]
   exact cut (min d c) (by lia)
  have hwd:0<h/\h<=100/\0<w'/\w'<=100/\L<=6:=⟨h0,by lia,w0,by lia,by lia⟩
  gn_on
  rw[strOf_len]
  refine⟨by lia,?_⟩
  gp_on
  refine sSeq_k λN hN=>?_
  have rest:∀c:Nat,c<=bs.length->N [vD (.lst (ns.map .int)),vI c0,vI h,vI w',vI mo,vD (ladD fs),vD (hdD h w' L n fs),vD (.str (strOf bs)),vI c,none,none,none]:=by
   intro c hc
   refine hN _ ?_
   clear hN
   clear N
   gn_on
   rw[strOf_len,str_take bs hc]
   refine⟨by lia,?_⟩
   gp_on
   obtain⟨B,hB⟩:=brs c hc
   have hbl1:(bs.take c).length<=1000000:=by rw[List.length_take];lia
   gn_on
   refine⟨ns,3,rfl,by decide,h,w',L,n,fs,bs.take c,ns.getD 3 0,B,rfl,ok,hwd,by lia,hbl1,hB,λW=>?_⟩
   fin2
   gp_on
   gn_on
   refine⟨h,w',L,n,fs,bs.take c,W,B,rfl,ok,hwd,by lia,hbl1,hB,?_⟩
   fin2
   gp_on
   gn_on
   refine⟨h,w',L,n,fs,bs.take c,W,_,B,rfl,ok,hwd,by lia,hbl1,hB,enD_ok B W _,?_⟩
   fin2
   gp_on
   obtain⟨B2,hB2⟩:=brs bs.length (Nat.le_refl _)
   rw[List.take_length]at hB2
   gn_on
   refine⟨h,w',L,n,fs,bs,0,B2,rfl,ok,hwd,by lia,by lia,hB2,?_⟩
   fin2
   refine⟨h,w',L,n,fs,bs,0,_,B2,rfl,ok,hwd,by lia,by lia,hB2,enD_ok B2 0 _,?_⟩
   fin2
   gp_on
   fin2
   refine⟨h,w',L,n,fs,bs.take c,W,B,rfl,ok,hwd,by lia,hbl1,hB,?_⟩
   fin2
   rcases enD_ok B W (bs.take c).length with⟨_,z⟩ | ⟨_,i,z,_⟩
   .rw [z]
    trivial
   .rw [z]
    simp
  fin2
  split
  .refine ⟨ns,2,rfl,by decide,?_⟩
   fin2
   rw[strOf_len]
   have f0:0<=ns.getD 2 0%((bs.length:Int)+1):=Int.emod_nonneg _ (by lia)
   have f1:ns.getD 2 0%((bs.length:Int)+1)<(bs.length:Int)+1:=Int.emod_lt_of_pos _ (by lia)
   refine⟨by lia,by lia,?_⟩
   have:=rest (ns.getD 2 0%((bs.length:Int)+1)).toNat (by lia)
   rw[Int.toNat_of_nonneg f0]at this
   exact this
  .exact rest _ (Nat.le_refl _)
 fin2
 split
 .exact key 1 1 1000000000000000000 (by decide) (by decide) (by lia) (by lia) (by decide) (by decide)
 .have:=key (1+c0%2).toNat (1+c0 / 2%3).toNat 20 (by lia) (by lia) (by lia) (by lia) (by decide) (by decide)
  rw[Int.toNat_of_nonneg (by lia),Int.toNat_of_nonneg (by lia)]at this
  exact this
end
theorem csts {w:World}{K:Frag}{h:Heap}{mg:Str->Option Value}(X:K.In h)(G:h.Ns mainGlobals mg)
  (a0:PySem.W.nsIn K mainGlobals "PART_SPANS"=some (some (.ref aT_PART_SPANS))) (aw:K.lookup aT_PART_SPANS=some ⟨.type "tuple",od_PART_SPANS,.seq #[.ref aT_PART_SPANS_0,.ref aT_PART_SPANS_1,.ref aT_PART_SPANS_2,.ref aT_PART_SPANS_3,.ref aT_PART_SPANS_4] nT_PART_SPANS,sl_PART_SPANS⟩)
  (ai:K.lookup aT_PART_SPANS_0=some ⟨.type "tuple",od_PART_SPANS_0,.seq #[.int 0 tk_PART_SPANS_0_0,.int 1 tk_PART_SPANS_0_1] nT_PART_SPANS_0,sl_PART_SPANS_0⟩)
  (af:K.lookup aT_PART_SPANS_1=some ⟨.type "tuple",od_PART_SPANS_1,.seq #[.int (-8) tk_PART_SPANS_1_0,.int 8 tk_PART_SPANS_1_1] nT_PART_SPANS_1,sl_PART_SPANS_1⟩)
  (aj:K.lookup aT_PART_SPANS_2=some ⟨.type "tuple",od_PART_SPANS_2,.seq #[.int (-8) tk_PART_SPANS_2_0,.int 8 tk_PART_SPANS_2_1] nT_PART_SPANS_2,sl_PART_SPANS_2⟩)
  (ag:K.lookup aT_PART_SPANS_3=some ⟨.type "tuple",od_PART_SPANS_3,.seq #[.int (-64) tk_PART_SPANS_3_0,.int 64 tk_PART_SPANS_3_1] nT_PART_SPANS_3,sl_PART_SPANS_3⟩)
  (ae:K.lookup aT_PART_SPANS_4=some ⟨.type "tuple",od_PART_SPANS_4,.seq #[.int 0 tk_PART_SPANS_4_0,.int 8 tk_PART_SPANS_4_1] nT_PART_SPANS_4,sl_PART_SPANS_4⟩)
  (bf:PySem.W.nsIn K mainGlobals "SIZES"=some (some (.ref aT_SIZES))) (be:K.lookup aT_SIZES=some ⟨.type "tuple",od_SIZES,.seq #[.int 1 tk_SIZES_0,.int 64 tk_SIZES_1] nT_SIZES,sl_SIZES⟩)
  (av:PySem.W.nsIn K mainGlobals "NUMBER_SPANS"=some (some (.ref aT_NUMBER_SPANS))) (ak:K.lookup aT_NUMBER_SPANS=some ⟨.type "tuple",od_NUMBER_SPANS,.seq #[.ref aT_NUMBER_SPANS_0,.ref aT_NUMBER_SPANS_1,.ref aT_NUMBER_SPANS_2,.ref aT_NUMBER_SPANS_3] nT_NUMBER_SPANS,sl_NUMBER_SPANS⟩)
  (ac:K.lookup aT_NUMBER_SPANS_0=some ⟨.type "tuple",od_NUMBER_SPANS_0,.seq #[.int 1 tk_NUMBER_SPANS_0_0,.int 64 tk_NUMBER_SPANS_0_1] nT_NUMBER_SPANS_0,sl_NUMBER_SPANS_0⟩)
  (aa:K.lookup aT_NUMBER_SPANS_1=some ⟨.type "tuple",od_NUMBER_SPANS_1,.seq #[.int 1 tk_NUMBER_SPANS_1_0,.int 64 tk_NUMBER_SPANS_1_1] nT_NUMBER_SPANS_1,sl_NUMBER_SPANS_1⟩)
  (ad:K.lookup aT_NUMBER_SPANS_2=some ⟨.type "tuple",od_NUMBER_SPANS_2,.seq #[.int 0 tk_NUMBER_SPANS_2_0,.int 6 tk_NUMBER_SPANS_2_1] nT_NUMBER_SPANS_2,sl_NUMBER_SPANS_2⟩)
  (ab:K.lookup aT_NUMBER_SPANS_3=some ⟨.type "tuple",od_NUMBER_SPANS_3,.seq #[.int 0 tk_NUMBER_SPANS_3_0,.int 4000 tk_NUMBER_SPANS_3_1] nT_NUMBER_SPANS_3,sl_NUMBER_SPANS_3⟩)
  (bd:PySem.W.nsIn K mainGlobals "LADDERS"=some (some (.ref aT_LADDERS))) (bb:K.lookup aT_LADDERS=some ⟨.type "dict",none,.dict #[⟨PyData.keyHash w.params "still",.str "still" tk_LADDERS_0,.ref aT_LADDERS_0⟩,⟨PyData.keyHash w.params "pair",.str "pair" tk_LADDERS_1,.ref aT_LADDERS_1⟩,⟨PyData.keyHash w.params "line",.str "line" tk_LADDERS_2,.ref aT_LADDERS_2⟩,⟨PyData.keyHash w.params "long",.str "long" tk_LADDERS_3,.ref aT_LADDERS_3⟩] nT_LADDERS,#[]⟩) (bc:(aT_LADDERS==sysModules)=false)
  (ay:K.lookup aT_LADDERS_0=some ⟨.type "tuple",od_LADDERS_0,.seq #[] nT_LADDERS_0,sl_LADDERS_0⟩)
  (az:K.lookup aT_LADDERS_1=some ⟨.type "tuple",od_LADDERS_1,.seq #[.ref aT_LADDERS_1_0,.ref aT_LADDERS_1_1] nT_LADDERS_1,sl_LADDERS_1⟩)
  (ap:K.lookup aT_LADDERS_1_0=some ⟨.type "tuple",od_LADDERS_1_0,.seq #[.int 1 tk_LADDERS_1_0_0,.int (-1) tk_LADDERS_1_0_1,.int 0 tk_LADDERS_1_0_2,.int 0 tk_LADDERS_1_0_3,.int 0 tk_LADDERS_1_0_4] nT_LADDERS_1_0,sl_LADDERS_1_0⟩)
  (al:K.lookup aT_LADDERS_1_1=some ⟨.type "tuple",od_LADDERS_1_1,.seq #[.int 0 tk_LADDERS_1_1_0,.int 0 tk_LADDERS_1_1_1,.int 1 tk_LADDERS_1_1_2,.int 0 tk_LADDERS_1_1_3,.int 1 tk_LADDERS_1_1_4] nT_LADDERS_1_1,sl_LADDERS_1_1⟩)
  (ax:K.lookup aT_LADDERS_2=some ⟨.type "tuple",od_LADDERS_2,.seq #[.ref aT_LADDERS_2_0,.ref aT_LADDERS_2_1] nT_LADDERS_2,sl_LADDERS_2⟩)
  (ar:K.lookup aT_LADDERS_2_0=some ⟨.type "tuple",od_LADDERS_2_0,.seq #[.int 1 tk_LADDERS_2_0_0,.int (-1) tk_LADDERS_2_0_1,.int (-1) tk_LADDERS_2_0_2,.int 1 tk_LADDERS_2_0_3,.int 1 tk_LADDERS_2_0_4] nT_LADDERS_2_0,sl_LADDERS_2_0⟩)
  (am:K.lookup aT_LADDERS_2_1=some ⟨.type "tuple",od_LADDERS_2_1,.seq #[.int 0 tk_LADDERS_2_1_0,.int 1 tk_LADDERS_2_1_1,.int 1 tk_LADDERS_2_1_2,.int 2 tk_LADDERS_2_1_3,.int 2 tk_LADDERS_2_1_4] nT_LADDERS_2_1,sl_LADDERS_2_1⟩)
  (ba:K.lookup aT_LADDERS_3=some ⟨.type "tuple",od_LADDERS_3,.seq #[.ref aT_LADDERS_3_0,.ref aT_LADDERS_3_1,.ref aT_LADDERS_3_2] nT_LADDERS_3,sl_LADDERS_3⟩)
  (aq:K.lookup aT_LADDERS_3_0=some ⟨.type "tuple",od_LADDERS_3_0,.seq #[.int 1 tk_LADDERS_3_0_0,.int (-1) tk_LADDERS_3_0_1,.int (-1) tk_LADDERS_3_0_2,.int 1 tk_LADDERS_3_0_3,.int 1 tk_LADDERS_3_0_4] nT_LADDERS_3_0,sl_LADDERS_3_0⟩)
  (au:K.lookup aT_LADDERS_3_1=some ⟨.type "tuple",od_LADDERS_3_1,.seq #[.int 0 tk_LADDERS_3_1_0,.int 1 tk_LADDERS_3_1_1,.int 1 tk_LADDERS_3_1_2,.int 2 tk_LADDERS_3_1_3,.int 2 tk_LADDERS_3_1_4] nT_LADDERS_3_1,sl_LADDERS_3_1⟩)
  (ao:K.lookup aT_LADDERS_3_2=some ⟨.type "tuple",od_LADDERS_3_2,.seq #[.int 1 tk_LADDERS_3_2_0,.int (-1) tk_LADDERS_3_2_1,.int (-1) tk_LADDERS_3_2_2,.int 4 tk_LADDERS_3_2_3,.int 3 tk_LADDERS_3_2_4] nT_LADDERS_3_2,sl_LADDERS_3_2⟩):
  TupC K mg "PART_SPANS" (D.tup [.tup [.int 0,.int 1],.tup [.int (-8),.int 8],.tup [.int (-8),.int 8],.tup [.int (-64),.int 64],.tup [.int 0,.int 8]])/\TupC K mg "SIZES" (D.tup [.int 1,.int 64])/\TupC K mg "NUMBER_SPANS" (D.tup [.tup [.int 1,.int 64],.tup [.int 1,.int 64],.tup [.int 0,.int 6],.tup [.int 0,.int 4000]])/\DicC w K mg "LADDERS" [("still",.tup []),("pair",.tup [.tup [.int 1,.int (-1),.int 0,.int 0,.int 0],.tup [.int 0,.int 0,.int 1,.int 0,.int 1]]),("line",.tup [.tup [.int 1,.int (-1),.int (-1),.int 1,.int 1],.tup [.int 0,.int 1,.int 1,.int 2,.int 2]]),("long",.tup [.tup [.int 1,.int (-1),.int (-1),.int 1,.int 1],.tup [.int 0,.int 1,.int 1,.int 2,.int 2],.tup [.int 1,.int (-1),.int (-1),.int 4,.int 3]])]:=
 ⟨⟨_,PySem.W.mg_of X G a0,λF=>⟨_,[.ref aT_PART_SPANS_0,.ref aT_PART_SPANS_1,.ref aT_PART_SPANS_2,.ref aT_PART_SPANS_3,.ref aT_PART_SPANS_4],rfl,.inr ⟨_,_,_,aw,rfl,rfl,sz_le (show 5<=1000000 by decide),.cons rfl (.cons rfl (.cons rfl (.cons rfl (.cons rfl (.nil)))))⟩,⟨_,_,rfl,(t2 ai F),⟨_,_,rfl,(t2 af F),⟨_,_,rfl,(t2 aj F),⟨_,_,rfl,(t2 ag F),⟨_,_,rfl,(t2 ae F),rfl⟩⟩⟩⟩⟩⟩⟩,⟨_,PySem.W.mg_of X G bf,λF=>(t2 be F)⟩,⟨_,PySem.W.mg_of X G av,λF=>⟨_,[.ref aT_NUMBER_SPANS_0,.ref aT_NUMBER_SPANS_1,.ref aT_NUMBER_SPANS_2,.ref aT_NUMBER_SPANS_3],rfl,.inr ⟨_,_,_,ak,rfl,rfl,sz_le (show 4<=1000000 by decide),.cons rfl (.cons rfl (.cons rfl (.cons rfl (.nil))))⟩,⟨_,_,rfl,(t2 ac F),⟨_,_,rfl,(t2 aa F),⟨_,_,rfl,(t2 ad F),⟨_,_,rfl,(t2 ab F),rfl⟩⟩⟩⟩⟩⟩,dicC_of (PySem.W.mg_of X G bd) bb (⟨⟨_,_,rfl,rfl⟩,⟨⟨_,_,rfl,rfl⟩,⟨⟨_,_,rfl,rfl⟩,⟨⟨_,_,rfl,rfl⟩, trivial⟩⟩⟩⟩) bc (.cons (λF=>⟨_,[],rfl,.inr ⟨_,_,_,ay,rfl,rfl,sz_le (show 0<=1000000 by decide),.nil⟩,rfl⟩) (.cons (λF=>⟨_,[.ref aT_LADDERS_1_0,.ref aT_LADDERS_1_1],rfl,.inr ⟨_,_,_,az,rfl,rfl,sz_le (show 2<=1000000 by decide),.cons rfl (.cons rfl (.nil))⟩,⟨_,_,rfl,(t5 ap F),⟨_,_,rfl,(t5 al F),rfl⟩⟩⟩) (.cons (λF=>⟨_,[.ref aT_LADDERS_2_0,.ref aT_LADDERS_2_1],rfl,.inr ⟨_,_,_,ax,rfl,rfl,sz_le (show 2<=1000000 by decide),.cons rfl (.cons rfl (.nil))⟩,⟨_,_,rfl,(t5 ar F),⟨_,_,rfl,(t5 am F),rfl⟩⟩⟩) (.cons (λF=>⟨_,[.ref aT_LADDERS_3_0,.ref aT_LADDERS_3_1,.ref aT_LADDERS_3_2],rfl,.inr ⟨_,_,_,ba,rfl,rfl,sz_le (show 3<=1000000 by decide),.cons rfl (.cons rfl (.cons rfl (.nil)))⟩,⟨_,_,rfl,(t5 aq F),⟨_,_,rfl,(t5 au F),⟨_,_,rfl,(t5 ao F),rfl⟩⟩⟩⟩) (.nil)))))⟩
end Lw
namespace PySem.W.Fast
def tw1951467675360496368:=Nat
def tw16882326582327804542:=Nat
def tw9354378636068899517:=Nat
def tw5872944727443824539:=Nat
def tw933733720055857206:=Nat
def tw2802492629772361820:=Nat
def tw11499210482272852227:=Nat
def tw2344228506449048682:=Nat
def tw17800126632307712857:=Nat
def tw1368997850798369523:=Nat
def tw11740645275070792139:=Nat
def tw16436656150258220779:=Nat
def tw16538379291331761883:=Nat
def tw5120188931799642832:=Nat
def tw8135140141913785746:=Nat
def tw16601740302374057657:=Nat
def tw123134823573284569:=Nat
def tw5252978021122460494:=Nat
def tw10715813790994990682:=Nat
def tw12458506519197310178:=Nat
def tw15034211853084979929:=Nat
def tw6576254093020791684:=Nat
def tw12454125184592146665:=Nat
def tw12046332589182538387:=Nat
def tw12658445328993988570:=Nat
def tw11622668341401524241:=Nat
def tw1203363627344377700:=Nat
def tw1475113846877821464:=Nat
def tw7850410124650828860:=Nat
def tw11478740836766857409:=Nat
def tw15745819569108923878:=Nat
def tw1773959346080223785:=Nat
def tw13535036758607340763:=Nat
def tw4527985648349300771:=Nat
def tw12470618259520414170:=Nat
def tw11012983512815088399:=Nat
def tw18059217195921241186:=Nat
def tw17469841391451675767:=Nat
def tw8059772231878829854:=Nat
def tw14761230214770094872:=Nat
def tw1866746880673327845:=Nat
def tw14970341669426920209:=Nat
def tw3859943768089873023:=Nat
def tw4601523159612472612:=Nat
def tw7599199343072595603:=Nat
def tw5019173715567995872:=Nat
def tw14666291637589556485:=Nat
def tw10902478407132194815:=Nat
def tw6197784291192958021:=Nat
def tw14218987772553438738:=Nat
def tw450979476121373835:=Nat
def tw15018251012720446952:=Nat
def tw16814176796761515714:=Nat
def tw4235798288701201350:=Nat
def tw10596560582696742671:=Nat
def tw3511270756821114638:=Nat
def tw14988584692518955450:=Nat
def tw1368351360423662188:=Nat
def tw17175706176442378352:=Nat
def tw6011784607850987292:=Nat
def tw7926335657161363266:=Nat
def tw16963551896169626259:=Nat
def tw13443918392484896394:=Nat
def tw11874654666959045179:=Nat
def tw11525924194522426731:=Nat
def tw17651339185741405823:=Nat
def tw12164216921453252530:=Nat
def tw8293763236960099251:=Nat
def tw12229997639312334653:=Nat
def tw9973698602140399042:=Nat
def tw15816536645500354877:=Nat
def tw12964182572330515200:=Nat
def tw3743795922365189259:=Nat
def tw11280744652787789603:=Nat
def tw14386764627554526018:=Nat
def tw10703978241190664876:=Nat
def tw9802647128033235765:=Nat
def tw9411570224823843070:=Nat
def tw15065679428533553976:=Nat
def tw13148943083351530700:=Nat
def tw7400193507455229170:=Nat
def tw8509570073961315076:=Nat
def tw13899874815136381343:=Nat
def tw3217516996917546100:=Nat
def tw1401751512305398302:=Nat
def tw18318964398054986896:=Nat
def tw14770491269915176969:=Nat
def tw18110217147968796927:=Nat
def tw15183656941874612133:=Nat
def tw11988819515323517966:=Nat
def tw9170143670695542644:=Nat
def tw2346220486789383323:=Nat
def tw14947959924716639765:=Nat
def tw7693786100668260990:=Nat
def tw6548215310333157514:=Nat
def tw6254901663160042277:=Nat
def tw15890445521693234581:=Nat
def tw11036692237745018401:=Nat
def tw14919164190641434931:=Nat
def tw16554007347207102117:=Nat
def tw6349572306998997019:=Nat
def tw3158652933518960580:=Nat
def tw16565794482096588701:=Nat
def tw13121207463112102669:=Nat
def tw14966656508332288138:=Nat
def tw1007427409217025693:=Nat
def tw6686629057386721631:=Nat
def tw15921803867802986234:=Nat
def tw3710944649061648614:=Nat
def tw10013610423238381242:=Nat
def tw5707469536621846281:=Nat
def tw12566117302231628238:=Nat
def tw1616894021882885479:=Nat
def tw9231053704924719532:=Nat
def tw11474959717111861612:=Nat
def tw426766548894689392:=Nat
def tw17503245223781651347:=Nat
def tw7557833140463529348:=Nat
def tw13645995333689409481:=Nat
def tw10954659795433654923:=Nat
def tw11163619815480705706:=Nat
def tw9734224508257089500:=Nat
def tw3464469271010296414:=Nat
def tw4380681790554295457:=Nat
def tw6518254867443286176:=Nat
def tw2708785254626485486:=Nat
def tw12121987730937253723:=Nat
def tw10525650444336031337:=Nat
def tw7798333091768342144:=Nat
def tw11304914922778169587:=Nat
def tw5838713411663323802:=Nat
def tw1629357286996511401:=Nat
def tw12857322289026927637:=Nat
def tw9381004000076461579:=Nat
def tw13643595160287165890:=Nat
def tw4633860360661190344:=Nat
def tw3456943840386877609:=Nat
def tw17637434364068526143:=Nat
def tw16161108281830633664:=Nat
def tw1941814331475075947:=Nat
def tw13335705974487210538:=Nat
def tw970287301544401244:=Nat
def tw13917158862035809821:=Nat
def tw1952876237097016473:=Nat
def tw10630197847141669309:=Nat
def tw1112154231697645607:=Nat
def tw8115827702110682683:=Nat
def tw13999536443549313979:=Nat
def tw16265456572659520973:=Nat
def tw15566006101269685550:=Nat
def tw9154574374980759931:=Nat
def tw15828510320838967210:=Nat
def tw8345869013194251064:=Nat
def tw16439688627731182054:=Nat
def tw17973626570698778286:=Nat
def tw6961399760948940921:=Nat
def tw2021193044998833986:=Nat
def tw9356637492396560121:=Nat
def tw17530663098026495227:=Nat
def tw4856814268499420306:=Nat
def tw14848084021812597246:=Nat
def tw17396427742856315705:=Nat
def tw1267499163301452086:=Nat
def tw7061574796994982994:=Nat
def tw13579366212926527525:=Nat
def tw1339665014927544165:=Nat
def tw4469079055016536402:=Nat
def tw16333273317984565081:=Nat
def tw16098454970298895925:=Nat
def tw7120803611838334586:=Nat
def tw5680264341214187751:=Nat
def tw14152448306385899535:=Nat
def tw900951285361108471:=Nat
def tw9411831115224820370:=Nat
def tw8936933418655077731:=Nat
def tw18151803812436368718:=Nat
def tw11826458620632438997:=Nat
def tw6200401144322937137:=Nat
def tw5322298999991944670:=Nat
def tw13087267749518289463:=Nat
def tw1879777283612263615:=Nat
def tw7037929035399370725:=Nat
def tw1157140748410694450:=Nat
def tw10644272489566635733:=Nat
def tw14278899444805846161:=Nat
def tw14685344115128429843:=Nat
def tw11567266699042825564:=Nat
def tw3883003792168003176:=Nat
def tw6700286845655593600:=Nat
def tw13301737027432967332:=Nat
def tw523435141306019215:=Nat
def tw2179519894153584224:=Nat
def tw14573147043195737699:=Nat
def tw12959986095978664213:=Nat
def tw11197394732086919517:=Nat
def tw16719563495702362751:=Nat
def tw4259436227779226061:=Nat
def tw38386252427890773:=Nat
def tw13785318712189400449:=Nat
def tw188413560974249508:=Nat
def tw15515256703542083078:=Nat
def tw7455454727182876632:=Nat
def tw2501533861795914058:=Nat
def tw13208371691520663653:=Nat
def tw3075092447789045623:=Nat
def tw3555150321252643390:=Nat
def tw10496525385453964031:=Nat
def tw4600871598327183866:=Nat
def tw12727023482630878913:=Nat
def tw8713397621037577754:=Nat
def tw12493917033969342441:=Nat
def tw2976782304567714751:=Nat
def tw7090682078760764470:=Nat
def tw338878322021543455:=Nat
def tw15443107862066232171:=Nat
def tw1235901211915885844:=Nat
def tw13255437063716376805:=Nat
def tw8120320186942880376:=Nat
def tw7351663495496734444:=Nat
def tw8707153304485400867:=Nat
def tw12042348330682302160:=Nat
def tw5304448145027277747:=Nat
def tw2897108749314198695:=Nat
def tw6438320433194990851:=Nat
def tw15580902627823340051:=Nat
def tw3184633047581602546:=Nat
def tw2710144636380802480:=Nat
def tw16166248256161763739:=Nat
def tw4843406359455501208:=Nat
def tw8290938509864297510:=Nat
def tw9591998896712830123:=Nat
def tw1399155822900045071:=Nat
def tw15882702563949257038:=Nat
def tw16627308894698797657:=Nat
def tw10669528903553226356:=Nat
def tw17185437689891097075:=Nat
def tw3040318848820914355:=Nat
def tw1821043697241263888:=Nat
def tw11095749548779352302:=Nat
def tw8290621496500655256:=Nat
def tw15417421683268655146:=Nat
def tw3484600440061075629:=Nat
def tw11532062131313363676:=Nat
def tw14005139098610067822:=Nat
def tw7401590777342514899:=Nat
def tw6717229878491022732:=Nat
def tw6932505096284383764:=Nat
def tw16405406748149778611:=Nat
def tw4929799783830777469:=Nat
def tw10300645392363823305:=Nat
def tw18411328104070892358:=Nat
def tw13645950246429178881:=Nat
def tw5495993797943594660:=Nat
def tw12217148931100093483:=Nat
def tw2308371267716736346:=Nat
def tw2418517809086418417:=Nat
def tw374858364021691505:=Nat
def tw12394385717196656641:=Nat
def tw10708699385131441118:=Nat
def tw12199028380844506566:=Nat
def tw18421374459527980530:=Nat
def tw10152882796097817436:=Nat
def tw15768672368370421384:=Nat
def tw10424603400402075530:=Nat
def tw15461650609255437918:=Nat
def tw8891673590804320856:=Nat
def tw850990026517405354:=Nat
def tw6116366769398539012:=Nat
def tw17746238723271218675:=Nat
def tw3739788850946856827:=Nat
def tw13387343593978962594:=Nat
def tw1506976901722741079:=Nat
def tw17945559605750889839:=Nat
def tw2459946508438502177:=Nat
def tw1502385838451891502:=Nat
def tw11575777180351850267:=Nat
def tw15301310274357999682:=Nat
def tw12627890147976711094:=Nat
def tw4571632838046826237:=Nat
def tw4243556509988413412:=Nat
def tw13379747441014789020:=Nat
def tw2672717291580488011:=Nat
def tw5519016188088357948:=Nat
def tw15917473185619786187:=Nat
def tw3269093370826323539:=Nat
def tw8003604951862055565:=Nat
def tw13127270334699533568:=Nat
def tw18044268039775294428:=Nat
def tw8421639876470497726:=Nat
def tw749528948307739300:=Nat
def tw6618176054504043078:=Nat
def tw8103824134409265875:=Nat
def tw5885500792894904638:=Nat
def tw1313424940846184806:=Nat
def tw13187272493728878742:=Nat
def tw10904371394678270158:=Nat
def tw9717126728678670664:=Nat
def tw5533807978066990136:=Nat
def tw9620506862251532414:=Nat
def tw10248569265788071348:=Nat
def tw4451730677148085147:=Nat
def tw1262047324710996000:=Nat
def tw13675923043617292610:=Nat
def tw1203596741363412822:=Nat
def tw9506095531116245413:=Nat
def tw15153965563913658085:=Nat
def tw8323547129043735878:=Nat
def tw7512491521263417139:=Nat
def tw1041642898634097156:=Nat
def tw6973770530037395462:=Nat
def tw11715646185385167906:=Nat
def tw11287836909449887048:=Nat
def tw3320706184506584184:=Nat
def tw927744580944243120:=Nat
def tw7355659817934308392:=Nat
def tw17027933856427328778:=Nat
def tw2082883841888317411:=Nat
def tw10745084041468550632:=Nat
def tw3962268799387839629:=Nat
def tw14486053671621782254:=Nat
def tw10076414866152228268:=Nat
def tw2493266933517918543:=Nat
def tw6434328810837354335:=Nat
def tw1427577556330848505:=Nat
def tw4976210221020459827:=Nat
def tw11287229235564142180:=Nat
def tw9594694414057350636:=Nat
def tw16036761767133971978:=Nat
def tw5260191397574199038:=Nat
def tw12026728333214156672:=Nat
def tw11740638845561437126:=Nat
def tw13868470377763567997:=Nat
def tw781220937214246851:=Nat
def tw12651760974603165987:=Nat
def tw18180591013705379767:=Nat
def tw9110415866124230535:=Nat
def tw9855890828618851442:=Nat
def tw7690482666813528626:=Nat
def tw13930270743704715105:=Nat
def tw3058964670192781636:=Nat
def tw1422394463094773069:=Nat
def tw4832390219769854198:=Nat
def tw13913317265647964300:=Nat
def tw14675281422909363600:=Nat
def tw7032854047274573253:=Nat
def tw17618103302734574509:=Nat
def tw12114963414284290885:=Nat
def tw8557482163562271285:=Nat
def tw14854321545478721867:=Nat
def tw1765156868392327562:=Nat
def tw10576924270461043236:=Nat
def tw11350048697113092192:=Nat
def tw940537454042382000:=Nat
def tw6958580165871860034:=Nat
def tw7089901783302689756:=Nat
def tw10387244074465423454:=Nat
def tw6481947128185114102:=Nat
def tw15371494956595083551:=Nat
def tw11684666003629574049:=Nat
def tw5851725207769301877:=Nat
def tw2448816141433472086:=Nat
def tw18405526050564553727:=Nat
def tw13413805902567242040:=Nat
def tw17312023574616956154:=Nat
def tw18161554874128243428:=Nat
def tw8188866616603997741:=Nat
def tw4029566449894657006:=Nat
def tw14977558609692437057:=Nat
def tw18399746649025128843:=Nat
def tw15154048998007898772:=Nat
def tw8142433520444276113:=Nat
def tw11909077816893567262:=Nat
def tw10070795606190059436:=Nat
def tw584138854748113430:=Nat
def tw11952264911840527298:=Nat
def tw14120429342369135536:=Nat
def tw3165798421630799528:=Nat
def tw4617198496641593920:=Nat
def tw11884426129829690533:=Nat
def tw13332877957539287653:=Nat
def tw5177646198069558531:=Nat
def tw11459005571359728472:=Nat
def tw4172000385626461676:=Nat
def tw16248139541759918611:=Nat
def tw18335971914197004398:=Nat
def tw12999267013020745624:=Nat
def tw17489910107984876542:=Nat
def tw734625427346484885:=Nat
def tw8840813201763253599:=Nat
def tw11995588101016167112:=Nat
def tw16892157439603886489:=Nat
def tw8094862536658874958:=Nat
def tw13453114392305633027:=Nat
def tw909139840289344091:=Nat
def tw1209476553079179000:=Nat
def tw13187223403098614433:=Nat
def tw16665031140652417453:=Nat
def tw16961457372056466600:=Nat
def tw7095587283595482819:=Nat
def tw11803020326317376766:=Nat
def tw1373493120589163803:=Nat
def tw7665745743612935377:=Nat
def tw9308973037312674014:=Nat
def tw3824068660736755199:=Nat
def tw11261891754499321437:=Nat
def tw8533546703611467682:=Nat
def tw14629762515126531587:=Nat
def tw8305321297345240299:=Nat
def tw7324107045443235287:=Nat
def tw15470960344529906211:=Nat
def tw7043594367038341584:=Nat
def tw10020768705508299671:=Nat
def tw7229594301357819964:=Nat
def tw1757136918725309894:=Nat
def tw1254685572021082503:=Nat
def tw9876982953336651870:=Nat
def tw15619561886416661163:=Nat
def tw1147146335072536256:=Nat
def tw5551971720216872862:=Nat
def tw3756390796688410688:=Nat
def tw13232891934789747315:=Nat
def tw10044126735228175:=Nat
def tw7654457439492858852:=Nat
def tw13428663583205599626:=Nat
def tw9676922227529037714:=Nat
def tw5806033941576730594:=Nat
def tw5360419361126006297:=Nat
def tw10376348419107880586:=Nat
def tw2706710889666414290:=Nat
def tw7993016941158384395:=Nat
def tw11166489321485809729:=Nat
def tw15516144857930832711:=Nat
def tw15694451763831887712:=Nat
def tw7747767993025310837:=Nat
def tw15412821523204903839:=Nat
def tw9981996953662474476:=Nat
def tw16317463660482736416:=Nat
def tw15262340789159744615:=Nat
def tw9407434760963039159:=Nat
def tw11919525824981877825:=Nat
def tw3036458073129418042:=Nat
def tw7364276904558907669:=Nat
def tw1161217362565198629:=Nat
def tw2054240156701316389:=Nat
def tw6882555518964702195:=Nat
def tw15016057198343382206:=Nat
def tw14457023559446604577:=Nat
def tw10129733265884894008:=Nat
def tw6030665114368952186:=Nat
def tw75039540234390525:=Nat
def tw7973908843263513745:=Nat
def tw10331901367669272495:=Nat
def tw17482541393994756551:=Nat
def tw18283809429353634552:=Nat
def tw7684732583018995552:=Nat
def tw1800902946217688935:=Nat
def tw8896330437316574153:=Nat
def tw3168860433919434194:=Nat
def tw17794511044009675515:=Nat
def tw17018460165166469942:=Nat
def tw6154201187050273005:=Nat
def tw14524888695046600399:=Nat
def tw12474918557460136052:=Nat
def tw10880470254587931423:=Nat
def tw8947636644319018410:=Nat
def tw13501523251314769655:=Nat
def tw9898792782742937569:=Nat
def tw4499425399690253271:=Nat
def tw10056900328624183443:=Nat
def tw11326158826665452816:=Nat
def tw13065679736203403643:=Nat
def tw11855742916751658907:=Nat
def tw5418607958505502669:=Nat
def tw6323864734877386436:=Nat
def tw12942328923975397697:=Nat
def tw10322146415312850956:=Nat
def tw4568081605690939542:=Nat
end PySem.W.Fast
open PySem PySem.W PyProof.Rows L2 Lw
set_option maxRecDepth 100000 in
set_option maxHeartbeats 0 in
theorem PySem.Challenge.cw_liftwave_k42_enough_holds : PySem.Challenge.rw_liftwave_k42_enough.Holds := by
 w_on;o_law;k_head;(case hw=>w_witness2)
 k_fill
 refine L2.law_walkT (k:=12) (l:=PySem.Challenge.rw_liftwave_k42_enough) (c:=463) (T:=459) (pos:=⟨303,4,304,49⟩) (q := "enough.<locals>.fits") rfl rfl ⟨rfl,by decide,by decide⟩ (λw h σ=>⟨PySem.W.km_in_of σ,PySem.W.km_tabs_of σ _ List.mem_cons_self⟩) (λw h X=>codeHd_in X (by k_is) (by rfl) (by decide)) (λw=>by kernel_rfl) ?F
 case F=>
  intro w mg fa h X G hfa
  have B:L2.BltV mg:=⟨⟨mz X G,mz X G,mz X G,mz X G,mz X G,mz X G,mz X G,mz X G,mz X G,mz X G,mz X G,mz X G⟩,mz X G,mz X G,mz X G,mz X G,mz X G,mz X G,mz X G,mz X G,mz X G,mz X G⟩
  have KV:=L2.KitV.of2 X (by simp only[kitNs,List.forall_mem_cons,D.tyN,kitB,String.reduceBEq,Bool.or_false,Bool.false_or,Bool.true_or,List.not_mem_nil,false_implies,implies_true,and_true];and_intros<;>kit_is)
  have CV_Walk:=dcls (c := "Walk") (ns:=Lw.Xa2) X (hn:=by simp only[Lw.Xa2,List.forall_mem_cons];exact⟨by k_is,by k_is,by k_is,by k_is,by k_is,λ_ h=>by cases h⟩) (h1:=by decide +kernel) (h2:=by decide)
  have g_HALF:∃t,mg "HALF"=some (.int 0 t):=⟨_,mv X G⟩
  have g_LEFT:∃t,mg "LEFT"=some (.int 1 t):=⟨_,mv X G⟩
  have g_RIGHT:∃t,mg "RIGHT"=some (.int 2 t):=⟨_,mv X G⟩
  have g_ADD:∃t,mg "ADD"=some (.int 3 t):=⟨_,mv X G⟩
  have g_SHIFT:∃t,mg "SHIFT"=some (.int 4 t):=⟨_,mv X G⟩
  have g_MOST_LIFTS:∃t,mg "MOST_LIFTS"=some (.int 6 t):=⟨_,mv X G⟩
  have g_ASKS:∃t,mg "ASKS"=some (.int 0 t):=⟨_,mv X G⟩
  have g_START:∃t,mg "START"=some (.int 1 t):=⟨_,mv X G⟩
  have g_END:∃t,mg "END"=some (.int 2 t):=⟨_,mv X G⟩
  have g_SPAN:∃t,mg "SPAN"=some (.int 3 t):=⟨_,mv X G⟩
  have g_WAKING:∃t,mg "WAKING"=some (.int 0 t):=⟨_,mv X G⟩
  have g_WAKING_FIRST:∃t,mg "WAKING_FIRST"=some (.int 1 t):=⟨_,mv X G⟩
  have g_SIGN:∃t,mg "SIGN"=some (.int 2 t):=⟨_,mv X G⟩
  have g_FIGURE:∃t,mg "FIGURE"=some (.int 3 t):=⟨_,mv X G⟩
  have g_HIGH:∃t,mg "HIGH"=some (.int 0 t):=⟨_,mv X G⟩
  have g_WIDE:∃t,mg "WIDE"=some (.int 1 t):=⟨_,mv X G⟩
  have g_LEVELS:∃t,mg "LEVELS"=some (.int 2 t):=⟨_,mv X G⟩
  have g_PLANES:∃t,mg "PLANES"=some (.int 3 t):=⟨_,mv X G⟩
  have g_LADDER:∃t,mg "LADDER"=some (.int 4 t):=⟨_,mv X G⟩
  have ⟨g_PART_SPANS,g_SIZES,g_NUMBER_SPANS,g_LADDERS⟩:=csts (w:=w) X G (by k_is) (by k_is) (by k_is) (by k_is) (by k_is) (by k_is) (by k_is) (by k_is) (by k_is) (by k_is) (by k_is) (by k_is) (by k_is) (by k_is) (by k_is) (by k_is) (by k_is) (by decide +kernel) (by k_is) (by k_is) (by k_is) (by k_is) (by k_is) (by k_is) (by k_is) (by k_is) (by k_is) (by k_is) (by k_is)
  have D1:=dmk (x := "is_number") (st:=Lw.s_is_number) X G
  have D2:=dmk (x := "plus") (st:=Lw.s_plus) X G
  have D3:=dmk (x := "minus") (st:=Lw.s_minus) X G
  have D4:=dmk (x := "times") (st:=Lw.s_times) X G
  have D5:=dmk (x := "halved") (st:=Lw.s_halved) X G
  have D6:=dmk (x := "breadth") (st:=Lw.s_breadth) X G
  have D7:=dmk (x := "broadest") (st:=Lw.s_broadest) X G
  have D8:=dmk (x := "holds") (st:=Lw.s_holds) X G
  have D9:=dmk (x := "is_lift") (st:=Lw.s_is_lift) X G
  have D10:=dmk (x := "is_ladder") (st:=Lw.s_is_ladder) X G
  have D11:=dmk (x := "ladder_of") (st:=Lw.s_ladder_of) X G
  have D12:=dmk (x := "neighbours") (st:=Lw.s_neighbours) X G
  have D13:=dmk (x := "lifted_places") (st:=Lw.s_lifted_places) X G
  have D14:=dmk (x := "gain") (st:=Lw.s_gain) X G
  have D15:=dmk (x := "raised") (st:=Lw.s_raised) X G
  have D16:=dmk (x := "gain_span") (st:=Lw.s_gain_span) X G
  have D17:=dmk (x := "lowered_spans") (st:=Lw.s_lowered_spans) X G
  have D18:=dmk (x := "is_row") (st:=Lw.s_is_row) X G
  have D19:=dmk (x := "is_picture") (st:=Lw.s_is_picture) X G
  have D20:=dmk (x := "change_rows") (st:=Lw.s_change_rows) X G
  have D21:=dmk (x := "change_columns") (st:=Lw.s_change_columns) X G
  have D22:=dmk (x := "laid") (st:=Lw.s_laid) X G
  have D23:=dmk (x := "opened_by") (st:=Lw.s_opened_by) X G
  have D24:=dmkD (x := "opened_spans") (st:=Lw.s_opened_spans) X G
  have D25:=dmk (x := "thinned") (st:=Lw.s_thinned) X G
  have D26:=dmk (x := "part_of_one") (st:=Lw.s_part_of_one) X G
  have D27:=dmk (x := "calm_span") (st:=Lw.s_calm_span) X G
  have D28:=dmk (x := "signed_span") (st:=Lw.s_signed_span) X G
  have D29:=dmk (x := "figured_span") (st:=Lw.s_figured_span) X G
  have q30:=dini (c := "Walk") (q := "Walk.__init__") (st:=Lw.s_Walk___init__) X G
  have ⟨D30,M_Walk⟩:=q30
  have D31:=dmet (m := "turn") (q := "Walk.turn") (st:=Lw.s_Walk_turn) X CV_Walk
  have D32:=dmet (m := "is_whole") (q := "Walk.is_whole") (st:=Lw.s_Walk_is_whole) X CV_Walk
  have D33:=dmet (m := "asked") (q := "Walk.asked") (st:=Lw.s_Walk_asked) X CV_Walk
  have D34:=dmet (m := "spans") (q := "Walk.spans") (st:=Lw.s_Walk_spans) X CV_Walk
  have D35:=dmet (m := "follow") (q := "Walk.follow") (st:=Lw.s_Walk_follow) X CV_Walk
  have D36:=dmet (m := "take") (q := "Walk.take") (st:=Lw.s_Walk_take) X CV_Walk
  have D37:=dmet (m := "walk_awake") (q := "Walk.walk_awake") (st:=Lw.s_Walk_walk_awake) X CV_Walk
  have D38:=dmet (m := "wake") (q := "Walk.wake") (st:=Lw.s_Walk_wake) X CV_Walk
  have D39:=dmet (m := "calm") (q := "Walk.calm") (st:=Lw.s_Walk_calm) X CV_Walk
  have D40:=dmk (x := "followed") (st:=Lw.s_followed) X G
  have D41:=dmk (x := "heights_of") (st:=Lw.s_heights_of) X G
  have D42:=dmk (x := "planes_of") (st:=Lw.s_planes_of) X G
  have D43:=dmk (x := "answer") (st:=Lw.s_answer) X G
  have D44:=dmk (x := "told") (st:=Lw.s_told) X G
  have D45:=dmk (x := "level_of") (st:=Lw.s_level_of) X G
  have D46:=dmk (x := "places") (st:=Lw.s_places) X G
  have D47:=dmk (x := "is_part") (st:=Lw.s_is_part) X G
  have D48:=dmk (x := "head_places") (st:=Lw.s_head_places) X G
  have D49:=dmk (x := "walk_of") (st:=Lw.s_walk_of) X G
  have D50:=dmkD (x := "coded") (st:=Lw.s_coded) X G
  have D51:=dmk (x := "sheet_of") (st:=Lw.s_sheet_of) X G
  have D52:=dmk (x := "level") (st:=Lw.s_level) X G
  have D53:=dmk (x := "broad") (st:=Lw.s_broad) X G
  have D54:=dmk (x := "least") (st:=Lw.s_least) X G
  have D55:=dmk (x := "enough") (st:=Lw.s_enough) X G
  have D56:=dmk (x := "_law_cell_at") (st:=Lw.s_law_cell_at) X G
  have D57:=dmk (x := "_law_whole") (st:=Lw.s_law_whole) X G
  have D58:=dmk (x := "_law_ladder") (st:=Lw.s_law_ladder) X G
  have D59:=dmk (x := "_law_picture") (st:=Lw.s_law_picture) X G
  have D60:=dmk (x := "_law_asked") (st:=Lw.s_law_asked) X G
  have D61:=dmk (x := "_law_least") (st:=Lw.s_law_least) X G
  have D62:=dmk (x := "law") (st:=Lw.s_law) X G
  have n_least:=dnm (x := "least") X G
  have n_level:=dnm (x := "level") X G
  have n_lowered_spans:=dnm (x := "lowered_spans") X G
  have n_raised:=dnm (x := "raised") X G
  cases hfa.symm.trans D62.here
  refine lawFT D62 (λs v=>.of_eq rfl) λb KB GB BB=>?_
  generalize OpenLaw.prog PySem.Challenge.rw_liftwave_k42_enough=P
  have c_law_cell_at:=ok_law_cell_at P w b D56 B KV
  have c_ladder_of:=ok_ladder_of P w b D11 B KV g_LADDERS
  have c_law_ladder:=ok_law_ladder P w b D58 B KV c_ladder_of
  have c_holds:=ok_holds P w b D8 B KV
  have c_is_number:=ok_is_number P w b D1 B KV
  have c_is_row:=ok_is_row P w b D18 B KV c_is_number
  have c_is_picture:=ok_is_picture P w b D19 B KV g_SIZES c_holds c_is_row
  have c_is_lift:=ok_is_lift P w b D9 B KV g_PART_SPANS c_is_number c_holds
  have c_is_ladder:=ok_is_ladder P w b D10 B KV g_MOST_LIFTS c_is_lift
  have c_is_part:=ok_is_part P w b D47 B KV g_NUMBER_SPANS c_is_number c_holds
  have c_thinned:=ok_thinned P w b D25 B KV
  have c_neighbours:=ok_neighbours P w b D12 B KV
  have c_lifted_places:=ok_lifted_places P w b D13 B KV c_neighbours
  have c_gain:=ok_gain P w b D14 B KV g_SHIFT g_ADD g_LEFT g_RIGHT
  have c_raised:=ok_raised P w b D15 B KV g_HALF c_lifted_places c_gain
  have c_minus:=ok_minus P w b D3 B KV
  have c_plus:=ok_plus P w b D2 B KV
  have c_times:=ok_times P w b D4 B KV
  have c_halved:=ok_halved P w b D5 B KV
  have c_gain_span:=ok_gain_span P w b D16 B KV g_SHIFT g_LEFT g_RIGHT g_ADD c_plus c_times c_halved
  have c_lowered_spans:=ok_lowered_spans P w b D17 B KV g_HALF c_lifted_places c_minus c_gain_span
  have c_change_rows:=ok_change_rows P w b D20 B KV n_raised n_lowered_spans c_raised c_lowered_spans
  have c_change_columns:=ok_change_columns P w b D21 B KV n_raised n_lowered_spans c_raised c_lowered_spans
  have c_laid:=ok_laid P w b D22 B KV n_raised c_thinned c_change_rows c_change_columns
  have c_level_of:=ok_level_of P w b D45 B KV n_level
  have c_places:=ok_places P w b D46 B KV n_level c_level_of
  have c_heights_of:=ok_heights_of P w b D41 B KV
  have c_planes_of:=ok_planes_of P w b D42 B KV c_heights_of
  have c_calm_span:=ok_calm_span P w b D27 B KV
  have c_Walk_turn:=ok_Walk_turn P w b D31 B KV CV_Walk
  have c_Walk___init__:=ok_Walk___init__ P w b D30 M_Walk B KV CV_Walk g_WAKING c_calm_span c_Walk_turn
  have c_Walk_is_whole:=ok_Walk_is_whole P w b D32 B KV CV_Walk
  have c_answer:=ok_answer P w b D43 B KV g_FIGURE g_SIGN g_START g_ASKS g_END
  have c_Walk_asked:=ok_Walk_asked P w b D33 B KV CV_Walk
  have c_Walk_walk_awake:=ok_Walk_walk_awake P w b D37 B KV CV_Walk g_FIGURE g_START g_END
  have c_figured_span:=ok_figured_span P w b D29 B KV
  have c_signed_span:=ok_signed_span P w b D28 B KV n_least
  have c_part_of_one:=ok_part_of_one P w b D26 B KV g_END g_START
  have c_Walk_wake:=ok_Walk_wake P w b D38 B KV CV_Walk g_SIGN g_WAKING g_WAKING_FIRST g_START g_END g_SPAN c_part_of_one
  have c_Walk_calm:=ok_Walk_calm P w b D39 B KV CV_Walk g_WAKING_FIRST g_WAKING g_ASKS g_START g_END c_calm_span c_Walk_wake
  have c_Walk_take:=ok_Walk_take P w b D36 B KV CV_Walk g_FIGURE g_ASKS g_SIGN g_SPAN c_Walk_walk_awake c_figured_span c_signed_span c_Walk_wake c_Walk_calm c_Walk_turn
  have c_told:=ok_told P w b D44 B KV CV_Walk c_Walk___init__ c_heights_of c_Walk_is_whole c_answer c_Walk_asked c_Walk_take
  have c_coded:=ok_coded P w b D50 B KV g_LEVELS c_is_picture c_ladder_of c_is_ladder c_is_part c_laid c_places c_planes_of c_told
  have c_law_picture:=ok_law_picture P w b D59 B KV
  have c_Walk_spans:=ok_Walk_spans P w b D34 B KV CV_Walk g_SPAN g_END g_START
  have c_Walk_follow:=ok_Walk_follow P w b D35 B KV CV_Walk c_Walk_is_whole c_Walk_take
  have c_followed:=ok_followed P w b D40 B KV CV_Walk c_Walk___init__ c_Walk_follow
  have c_walk_of:=ok_walk_of P w b D49 B KV g_PLANES g_HIGH g_WIDE c_followed
  have c_breadth:=ok_breadth P w b D6 B KV
  have c_broadest:=ok_broadest P w b D7 B KV c_breadth
  have c_opened_by:=ok_opened_by P w b D23 B KV c_thinned c_change_columns c_change_rows
  have c_opened_spans:=ok_opened_spans P w b D24 B KV n_lowered_spans c_opened_by
  have c_head_places:=ok_head_places P w b D48 B KV g_HIGH g_WIDE g_LEVELS c_places
  have c_sheet_of:=ok_sheet_of P w b D51 B KV g_WIDE g_HIGH c_head_places
  have c_level:=ok_level P w b D52 B KV g_LADDER g_LEVELS c_holds c_thinned c_opened_spans c_sheet_of
  have c_broad:=ok_broad P w b D53 B KV CV_Walk c_Walk_spans c_walk_of c_broadest c_level
  have c_law_asked:=ok_law_asked P w b D60 B KV c_broad
  have c_enough_fits:=ok_enough_fits P w b B KV c_broad
  have c_least:=ok_least P w b D54 B KV c_enough_fits
  have c_enough:=ok_enough P w b D55 rfl (codeHd_in KB (by k_is) (by rfl) (by decide)) BB B KV c_enough_fits c_least
  have c_law_whole:=ok_law_whole P w b D57 B KV
  have c_law_least:=ok_law_least P w b D61 B KV c_broad c_law_whole
  exact ok_law P w b D62 B KV c_law_cell_at c_law_ladder c_coded c_law_picture c_law_asked c_enough c_law_least